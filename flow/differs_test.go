package flow

import (
	"slices"
	"testing"

	"waystone/api"
)

// wantDiffers asks Differs, also the other way round.
func wantDiffers(t *testing.T, what string, x, y api.Network, device int, want []api.Range) {
	t.Helper()
	z, e := Differs(x, y, device)
	wantZone(t, what, z, e, want)
	z, e = Differs(y, x, device)
	wantZone(t, what+", the other way round", z, e, want)
}

// wantAlike asks for two networks that do not differ from any of their devices.
func wantAlike(t *testing.T, what string, x, y api.Network) {
	t.Helper()
	for device := range x.T.Ports {
		wantDiffers(t, what, x, y, device, nil)
	}
}

// changed is an ordinary network in which something is changed.
func changed(do func(n *api.Network)) api.Network {
	n := ordinary()
	do(&n)
	return n
}

// W1, P11.1: a network, and itself, or one alike.
func TestDiffersOfItself(t *testing.T) {
	for _, n := range rights() {
		wantAlike(t, "itself", n, n)
		wantAlike(t, "a twin", n, twin(n))
	}
}

// W1, P11.1: two that differ in one rule, in each of its fields, or that only one of the two has, from devices at which packets come by it, and from others.
func TestDiffersInOneRule(t *testing.T) {
	x := ordinary()
	for _, c := range []struct {
		name string
		do   func(n *api.Network)
		want [5][]api.Range
	}{
		{"a range that ends ahead", func(n *api.Network) { n.Rules[5].R.To = 104 }, [5][]api.Range{zn(rg(105, 109)), zn(rg(105, 109))}},
		{"a range that begins behind", func(n *api.Network) { n.Rules[5].R.From = 105 }, [5][]api.Range{zn(rg(100, 104)), zn(rg(100, 104))}},
		{"a port joined to none", func(n *api.Network) { n.Rules[8].Port = 3 }, [5][]api.Range{zn(rg(140, 149)), zn(rg(140, 149))}},
		{"a port joined to another one", func(n *api.Network) { n.Rules[8].Port = 1 }, [5][]api.Range{zn(rg(140, 149)), zn(rg(140, 149))}},
		{"the other port of a link to itself", func(n *api.Network) { n.Rules[15].Port = 2 }, [5][]api.Range{}},
		{"a drop instead", func(n *api.Network) { n.Rules[11] = id(12, no(api.Drop, 2, rg(150, 159), 5)) }, [5][]api.Range{zn(rg(150, 159)), zn(rg(150, 159)), zn(rg(150, 159))}},
		{"a permit instead", func(n *api.Network) { n.Rules[18].Kind = api.Permit }, [5][]api.Range{zn(rg(194, 196)), zn(rg(194, 196)), nil, zn(rg(194, 196))}},
		{"none", func(n *api.Network) { n.Rules = slices.Delete(n.Rules, 2, 3) }, [5][]api.Range{zn(rg(210, 219))}},
		{"another device's", func(n *api.Network) { n.Rules[2].Device = 1 }, [5][]api.Range{zn(rg(210, 219)), zn(rg(210, 219))}},
		{"one of all more", func(n *api.Network) { n.Rules = append(n.Rules, id(99, no(api.Deny, 4, all(), 0))) }, [5][]api.Range{4: zn(all())}},
		{"one of the first address more", func(n *api.Network) { n.Rules = append(n.Rules, id(99, no(api.Drop, 0, rg(0, 0), 0))) }, [5][]api.Range{zn(rg(0, 0))}},
		{"one of the last address more", func(n *api.Network) { n.Rules = append(n.Rules, id(99, by(1, 3, rg(last, last), 0))) }, [5][]api.Range{nil, zn(rg(last, last))}},
		{"one from the first address on more", func(n *api.Network) { n.Rules = append(n.Rules, id(99, no(api.Drop, 2, rg(0, 9), 0))) }, [5][]api.Range{2: zn(rg(0, 9))}},
		{"one up to the last address more", func(n *api.Network) { n.Rules = append(n.Rules, id(99, no(api.Drop, 2, rg(1<<31, last), 0))) }, [5][]api.Range{2: zn(rg(1<<31, last))}},
	} {
		for device, want := range c.want {
			wantDiffers(t, c.name, x, changed(c.do), device, want)
		}
	}
}

// W1, P11.1: the same fate at the end is another trace, where the way, or the port by which it leaves, is another one.
func TestDiffersInTheWay(t *testing.T) {
	t1 := top([]api.Link{ln(0, 0, 1, 0), ln(0, 1, 2, 0), ln(1, 1, 3, 0), ln(2, 1, 3, 1)}, 2, 2, 2, 4)
	rules := func(port int) []api.Rule {
		return []api.Rule{by(0, port, rg(10, 99), 0), by(1, 1, all(), 0), by(2, 1, all(), 0), by(3, 2, all(), 0)}
	}
	x, y := net(t1, rules(0)...), net(t1, rules(1)...)
	wantDiffers(t, "another way", x, y, 0, zn(rg(10, 99)))
	for device := 1; device < 4; device++ {
		wantDiffers(t, "another way, from behind", x, y, device, nil)
	}
	y = twin(x)
	y.Rules[3].Port = 3
	for device, want := range [][]api.Range{zn(rg(10, 99)), zn(all()), zn(all()), zn(all())} {
		wantDiffers(t, "another port", x, y, device, want)
	}
}

// W1, P11.1: two that differ in a link, or in links' order, or in which end of one is told first.
func TestDiffersInALink(t *testing.T) {
	x := ordinary()
	y := changed(func(n *api.Network) { n.T.Links = n.T.Links[1:] })
	for device, want := range [][]api.Range{zn(rg(100, 199)), zn(rg(140, 149)), nil, nil, nil} {
		wantDiffers(t, "without one", x, y, device, want)
	}
	y = changed(func(n *api.Network) { n.T.Links[3] = ln(3, 1, 4, 0) })
	for device, want := range [][]api.Range{zn(rg(180, 184)), zn(rg(180, 184)), nil, zn(rg(180, 184)), zn(all())} {
		wantDiffers(t, "another one", x, y, device, want)
	}
	wantAlike(t, "in another order", x, changed(func(n *api.Network) { slices.Reverse(n.T.Links) }))
	wantAlike(t, "turned round", x, changed(func(n *api.Network) { n.T.Links[0] = ln(1, 0, 0, 1) }))
	wantAlike(t, "by which nobody goes", with(x), changed(func(n *api.Network) { *n = net(top(nil, n.T.Ports...)) }))
}

// W1, P11.1: two that differ in the number of devices: from those that both have; from one that only one has, and from those that neither has.
func TestDiffersInDevices(t *testing.T) {
	x := ordinary()
	more := changed(func(n *api.Network) { n.T.Ports = append(n.T.Ports, 2, 1) })
	wantAlike(t, "more devices", x, more)
	// The same packets go on to a device that the other one has not.
	y := twin(more)
	y.T.Links = append(y.T.Links, ln(0, 0, 5, 1))
	wantDiffers(t, "to one more", x, y, 0, zn(rg(200, 209)))
	wantDiffers(t, "to one more", more, y, 0, zn(rg(200, 209)))
	for _, pair := range [][2]api.Network{{x, more}, {more, x}, {x, y}, {y, x}, {x, api.Network{}}, {api.Network{}, x}} {
		for device := range api.MaxDevices {
			if device < min(len(pair[0].T.Ports), len(pair[1].T.Ports)) {
				continue
			}
			z, e := Differs(pair[0], pair[1], device)
			wantNone(t, "Differs", z, e)
		}
	}
	for _, n := range rights() {
		for _, device := range beyond(n) {
			for _, m := range []api.Network{n, with(n), {}} {
				z, e := Differs(n, m, device)
				wantNone(t, "Differs", z, e)
				z, e = Differs(m, n, device)
				wantNone(t, "Differs", z, e)
			}
		}
	}
}

// W1, P11.1: two that differ in rules' order of precedence alone, by Prio and by ID.
func TestDiffersInPrecedence(t *testing.T) {
	t1 := top(nil, 2)
	one, other := by(0, 0, rg(0, 59), 5), by(0, 1, rg(40, 99), 5)
	x, y := net(t1, one, other), net(t1, other, one)
	wantDiffers(t, "by ID", x, y, 0, zn(rg(40, 59)))
	higher := net(t1, by(0, 0, rg(0, 59), 5), by(0, 1, rg(40, 99), 6))
	wantDiffers(t, "by Prio", x, higher, 0, zn(rg(40, 59)))
	wantDiffers(t, "by Prio and ID", y, higher, 0, nil)
	lower := net(t1, by(0, 0, rg(0, 59), 5), by(0, 1, rg(40, 99), 4))
	wantDiffers(t, "a lower one", x, lower, 0, nil)
	denied := net(t1, one, no(api.Deny, 0, rg(10, 19), 5), no(api.Permit, 0, all(), 4))
	permitted := net(t1, one, no(api.Deny, 0, rg(10, 19), 5), no(api.Permit, 0, all(), 6))
	wantDiffers(t, "of who is denied", denied, permitted, 0, zn(rg(10, 19)))
	apart := net(t1, no(api.Permit, 0, all(), 4), by(0, 0, rg(0, 59), 1000), no(api.Deny, 0, rg(10, 19), 5))
	wantDiffers(t, "of rules of two tables", denied, apart, 0, nil)
}

// W1, P11.1: rules that change no packet's way, though they cut addresses, on either side.
func TestDiffersInNothing(t *testing.T) {
	x := ordinary()
	for name, do := range map[string]func(n *api.Network){
		"behind another one":  func(n *api.Network) { n.Rules = append(n.Rules, id(99, no(api.Drop, 4, rg(17, 23), 4))) },
		"the same once more":  func(n *api.Network) { n.Rules = append(n.Rules, id(99, by(4, 0, rg(17, 23), 9))) },
		"permitted anyway":    func(n *api.Network) { n.Rules = append(n.Rules, id(99, no(api.Permit, 2, rg(17, 23), 9))) },
		"dropped once denied": func(n *api.Network) { n.Rules = append(n.Rules, id(99, no(api.Drop, 0, rg(221, 223), 9))) },
		"denied once more":    func(n *api.Network) { n.Rules = append(n.Rules, id(99, no(api.Deny, 0, rg(221, 223), 9))) },
		"in two halves": func(n *api.Network) {
			n.Rules[0].R.To = 144
			n.Rules = append(n.Rules, id(99, by(0, 1, rg(145, 199), 5)))
		},
		"another ID": func(n *api.Network) { n.Rules[19].ID = api.MaxID },
		"others' Prio": func(n *api.Network) {
			for i := range n.Rules {
				n.Rules[i].Prio = i
			}
		},
	} {
		wantAlike(t, name, x, changed(do))
	}
}

// W1, P11.1: ranges that touch are told as one, though they differ in several ways, and are cut by either network.
func TestDiffersTouch(t *testing.T) {
	t1 := top(nil, 2)
	x := net(t1, by(0, 0, rg(0, 9), 0), by(0, 1, rg(10, 19), 0), no(api.Drop, 0, rg(20, 29), 0))
	y := net(t1, by(0, 1, rg(0, 4), 0), no(api.Deny, 0, rg(5, 14), 0), by(0, 0, rg(15, 34), 0), by(0, 1, rg(36, last), 0))
	wantDiffers(t, "touching", x, y, 0, zn(rg(0, 34), rg(36, last)))
	y.Rules[3].R = rg(35, last)
	wantDiffers(t, "all", x, y, 0, zn(all()))
}

// id is a rule with an ID.
func id(i int, r api.Rule) api.Rule {
	r.ID = i
	return r
}
