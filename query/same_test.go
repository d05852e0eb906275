package query

import (
	"slices"
	"testing"

	"waystone/api"
)

// changed is an ordinary network in which something is changed.
func changed(do func(n *api.Network)) api.Network {
	n := ordinary()
	do(&n)
	return n
}

// wantSame asks Same of two networks, over a range, and the other way round; the trace in the verdict is that of the network that is asked.
func wantSame(t *testing.T, what string, x, y api.Network, r api.Range, v api.Verdict) {
	t.Helper()
	back := v
	if !v.Holds {
		back.Trace = trace(t, y, v.From, v.Addr)
	}
	for _, name := range []string{"", "x", "morethaneight"} {
		q := api.Query{Kind: api.Same, R: r, Other: name}
		want(t, what, x, y, q, v)
		want(t, what+", the other way round", y, x, q, back)
	}
}

// Q2, P12.1: Same of a network with itself, and with one alike, over all, and over one address.
func TestRunSameOfItself(t *testing.T) {
	for _, n := range rights() {
		for _, r := range []api.Range{all(), rg(0, 0), rg(150, 159), rg(last, last)} {
			wantSame(t, "itself", n, n, r, holds())
			wantSame(t, "a twin", n, twin(n), r, holds())
		}
	}
}

// Q2, P12.1: Same of two that differ in one rule, in each of its fields, or that only one of the two has.
func TestRunSameInOneRule(t *testing.T) {
	x := ordinary()
	for _, c := range []struct {
		name string
		do   func(n *api.Network)
		want api.Verdict
	}{
		{"a range that ends ahead", func(n *api.Network) { n.Rules[5].R.To = 104 }, broken(0, 105, out(3, 0, 1))},
		{"a range that begins behind", func(n *api.Network) { n.Rules[5].R.From = 105 }, broken(0, 100, out(3, 0, 1))},
		{"a port joined to none", func(n *api.Network) { n.Rules[8].Port = 3 }, broken(0, 140, tr(api.Looped, 0, 1, 0))},
		{"a port joined to another one", func(n *api.Network) { n.Rules[8].Port = 1 }, broken(0, 140, tr(api.Looped, 0, 1, 0))},
		{"a drop instead", func(n *api.Network) { n.Rules[11] = id(12, no(api.Drop, 2, rg(150, 159), 5)) }, broken(0, 150, out(1, 0, 1, 2))},
		{"a permit instead", func(n *api.Network) { n.Rules[18].Kind = api.Permit }, broken(0, 194, tr(api.Denied, 0, 1, 3))},
		{"none", func(n *api.Network) { n.Rules = slices.Delete(n.Rules, 2, 3) }, broken(0, 210, tr(api.Dropped, 0))},
		{"another device's", func(n *api.Network) { n.Rules[2].Device = 1 }, broken(0, 210, tr(api.Dropped, 0))},
		{"one of all more, at the last device", func(n *api.Network) { n.Rules = append(n.Rules, id(99, no(api.Deny, 4, all(), 0))) }, broken(4, 0, out(0, 4))},
		{"one of the first address more", func(n *api.Network) { n.Rules = append(n.Rules, id(99, no(api.Drop, 0, rg(0, 0), 0))) }, broken(0, 0, tr(api.Lost, 0))},
		{"one of the last address more", func(n *api.Network) { n.Rules = append(n.Rules, id(99, by(1, 3, rg(last, last), 0))) }, broken(1, last, tr(api.Lost, 1))},
		{"one within more, at a later device", func(n *api.Network) { n.Rules = append(n.Rules, id(99, no(api.Drop, 2, rg(20, 30), 0))) }, broken(2, 20, tr(api.Lost, 2))},
	} {
		y := changed(c.do)
		wantSame(t, c.name, x, y, all(), c.want)
		one := c.want.Addr
		wantSame(t, c.name+": one address", x, y, rg(one, one), c.want)
		wantSame(t, c.name+": up to the last one", x, y, rg(0, one), c.want)
		wantSame(t, c.name+": from the first one on", x, y, rg(one, last), c.want)
		if c.want.From == 0 && one > 0 {
			wantSame(t, c.name+": ahead of it", x, y, rg(0, one-1), holds())
		}
	}
}

// Q2, P12.1: the least device counts first, and only then the least address.
func TestRunSameOfSeveral(t *testing.T) {
	x := ordinary()
	y := changed(func(n *api.Network) {
		n.Rules = append(n.Rules, id(97, no(api.Drop, 4, rg(5, 9), 9)), id(98, no(api.Drop, 3, rg(6, 6), 9)), id(99, no(api.Deny, 1, rg(1000, 2000), 9)))
	})
	wantSame(t, "several", x, y, all(), broken(1, 1000, tr(api.Lost, 1)))
	wantSame(t, "several", x, y, rg(0, 999), broken(3, 6, tr(api.Lost, 3)))
	wantSame(t, "several", x, y, rg(7, 999), broken(4, 7, out(0, 4)))
	wantSame(t, "several", x, y, rg(0, 5), broken(4, 5, out(0, 4)))
	wantSame(t, "several", x, y, rg(10, 999), holds())
	wantSame(t, "several", x, y, rg(1500, 1500), broken(1, 1500, tr(api.Lost, 1)))
	wantSame(t, "several", x, y, rg(2001, last), holds())
}

// Q2, P12.1: Same of two whose packets end alike, but go another way, or leave by another port.
func TestRunSameInTheWay(t *testing.T) {
	t1 := top([]api.Link{ln(0, 0, 1, 0), ln(0, 1, 2, 0), ln(1, 1, 3, 0), ln(2, 1, 3, 1)}, 2, 2, 2, 4)
	rules := func(port int) []api.Rule {
		return []api.Rule{by(0, port, rg(10, 99), 0), by(1, 1, all(), 0), by(2, 1, all(), 0), by(3, 2, all(), 0)}
	}
	x, y := net(t1, rules(0)...), net(t1, rules(1)...)
	wantSame(t, "another way", x, y, all(), broken(0, 10, out(2, 0, 1, 3)))
	y = twin(x)
	y.Rules[3].Port = 3
	wantSame(t, "another port", x, y, all(), broken(0, 10, out(2, 0, 1, 3)))
	wantSame(t, "another port", x, y, rg(0, 9), broken(1, 0, out(2, 1, 3)))
}

// Q2, P12.1: Same of two that differ in rules' order of precedence alone, by Prio and by ID.
func TestRunSameInPrecedence(t *testing.T) {
	t1 := top(nil, 2)
	one, other := by(0, 0, rg(0, 59), 5), by(0, 1, rg(40, 99), 5)
	x, y := net(t1, one, other), net(t1, other, one)
	wantSame(t, "by ID", x, y, all(), broken(0, 40, out(0, 0)))
	wantSame(t, "by ID", x, y, rg(0, 39), holds())
	wantSame(t, "by ID", x, y, rg(60, last), holds())
	higher := net(t1, by(0, 0, rg(0, 59), 5), by(0, 1, rg(40, 99), 6))
	wantSame(t, "by Prio", x, higher, all(), broken(0, 40, out(0, 0)))
	wantSame(t, "by Prio and ID", y, higher, all(), holds())
	wantSame(t, "a lower one", x, net(t1, by(0, 0, rg(0, 59), 5), by(0, 1, rg(40, 99), 4)), all(), holds())
	denied := net(t1, one, no(api.Deny, 0, rg(10, 19), 5), no(api.Permit, 0, all(), 4))
	permitted := net(t1, one, no(api.Deny, 0, rg(10, 19), 5), no(api.Permit, 0, all(), 6))
	wantSame(t, "of who is denied", denied, permitted, all(), broken(0, 10, tr(api.Denied, 0)))
}

// Q2, P12.1: Same of two that differ in rules that change no packet's way, or in rules outside of the range.
func TestRunSameInNothing(t *testing.T) {
	x := ordinary()
	for name, do := range map[string]func(n *api.Network){
		"behind another one":  func(n *api.Network) { n.Rules = append(n.Rules, id(99, no(api.Drop, 4, rg(17, 23), 4))) },
		"the same once more":  func(n *api.Network) { n.Rules = append(n.Rules, id(99, by(4, 0, rg(17, 23), 9))) },
		"permitted anyway":    func(n *api.Network) { n.Rules = append(n.Rules, id(99, no(api.Permit, 2, rg(17, 23), 9))) },
		"dropped once denied": func(n *api.Network) { n.Rules = append(n.Rules, id(99, no(api.Drop, 0, rg(221, 223), 9))) },
		"in two halves": func(n *api.Network) {
			n.Rules[0].R.To = 144
			n.Rules = append(n.Rules, id(99, by(0, 1, rg(145, 199), 5)))
		},
		"another ID":                         func(n *api.Network) { n.Rules[19].ID = api.MaxID },
		"the other port of a link to itself": func(n *api.Network) { n.Rules[15].Port = 2 },
	} {
		for _, r := range []api.Range{all(), rg(17, 23), rg(180, 184), rg(222, 222)} {
			wantSame(t, name, x, changed(do), r, holds())
		}
	}
	y := changed(func(n *api.Network) { n.Rules = append(n.Rules, id(99, no(api.Drop, 4, rg(17, 23), 9))) })
	wantSame(t, "outside of the range", x, y, rg(0, 16), holds())
	wantSame(t, "outside of the range", x, y, rg(24, last), holds())
	wantSame(t, "within the range", x, y, rg(16, 24), broken(4, 17, out(0, 4)))
	wantSame(t, "within the range", x, y, rg(23, 24), broken(4, 23, out(0, 4)))
}

// Q2, P12.1: Same of two, one of which has no rules.
func TestRunSameOfNoRules(t *testing.T) {
	x := ordinary()
	wantSame(t, "without rules", x, with(x), all(), broken(0, 100, out(3, 0, 1)))
	wantSame(t, "without rules", x, with(x), rg(0, 99), broken(4, 0, out(0, 4)))
	wantSame(t, "without rules", ring(8), with(ring(8)), rg(last, last), broken(0, last, tr(api.Looped, 0, 1, 2, 3, 4, 5, 6, 7, 0)))
}

// Q2, P12.1: Same asks for the same topology, link by link; all other kinds do not look at the other network.
func TestRunSameOfTopologies(t *testing.T) {
	x := ordinary()
	for name, do := range map[string]func(n *api.Network){
		"a port more":         func(n *api.Network) { n.T.Ports[4]++ },
		"a port less":         func(n *api.Network) { n.T.Ports[1]-- },
		"a device more":       func(n *api.Network) { n.T.Ports = append(n.T.Ports, 1) },
		"a device less":       func(n *api.Network) { n.T.Ports = n.T.Ports[:4] },
		"none":                func(n *api.Network) { n.T.Ports = nil },
		"a link less":         func(n *api.Network) { n.T.Links = n.T.Links[1:] },
		"the last link less":  func(n *api.Network) { n.T.Links = n.T.Links[:3] },
		"a link more":         func(n *api.Network) { n.T.Links = append(n.T.Links, ln(0, 0, 4, 0)) },
		"another link":        func(n *api.Network) { n.T.Links[3] = ln(3, 1, 4, 0) },
		"no links":            func(n *api.Network) { n.T.Links = nil },
		"in another order":    func(n *api.Network) { slices.Reverse(n.T.Links) },
		"a link turned round": func(n *api.Network) { n.T.Links[0] = ln(1, 0, 0, 1) },
		"nothing":             func(n *api.Network) { *n = api.Network{} },
		"rules alone":         func(n *api.Network) { n.T = api.Topology{} },
	} {
		y := changed(do)
		for _, q := range []api.Query{same(all()), same(rg(0, 0)), {Kind: api.Same}} {
			wantRefused(t, name, x, y, q)
			wantRefused(t, name+", the other way round", y, x, q)
		}
		wantAll(t, name, x, asking{noLoop(rg(0, 139)), holds()})
		want(t, name, x, y, noLoop(all()), broken(0, 140, tr(api.Looped, 0, 1, 0)))
		want(t, name, x, y, reach(4, 4, all()), holds())
	}
	wantSame(t, "a topology alone", x, api.Network{T: x.T}, rg(100, 100), broken(0, 100, out(3, 0, 1)))
}

// Q2, P12.1: two verdicts are alike, field by field.
func TestSame(t *testing.T) {
	base := func() api.Verdict { return broken(3, 100, out(1, 3, 4, 2)) }
	l := []api.Verdict{base(), holds(), {}}
	for _, do := range []func(v *api.Verdict){
		func(v *api.Verdict) { v.Holds = true },
		func(v *api.Verdict) { v.From = 2 },
		func(v *api.Verdict) { v.From = -3 },
		func(v *api.Verdict) { v.From += 1 << 32 },
		func(v *api.Verdict) { v.Addr = 0 },
		func(v *api.Verdict) { v.Addr = 101 },
		func(v *api.Verdict) { v.Addr = last },
		func(v *api.Verdict) { v.Trace = api.Trace{} },
		func(v *api.Verdict) { v.Trace.Fate = api.Looped },
		func(v *api.Verdict) { v.Trace.Fate = 99 },
		func(v *api.Verdict) { v.Trace.Out.Device = 1 },
		func(v *api.Verdict) { v.Trace.Out.Port = 0 },
		func(v *api.Verdict) { v.Trace.Devices[0] = 0 },
		func(v *api.Verdict) { v.Trace.Devices[1] = 0 },
		func(v *api.Verdict) { v.Trace.Devices[2] = 0 },
		func(v *api.Verdict) { v.Trace.Devices = nil },
		func(v *api.Verdict) { v.Trace.Devices = v.Trace.Devices[:2] },
		func(v *api.Verdict) { v.Trace.Devices = append(v.Trace.Devices, 2) },
		func(v *api.Verdict) { slices.Reverse(v.Trace.Devices) },
	} {
		v := base()
		do(&v)
		l = append(l, v)
	}
	for i, x := range l {
		for k, y := range l {
			y.Trace.Devices = slices.Clone(y.Trace.Devices)
			if Same(x, y) != (i == k) {
				t.Errorf("Same(%+v, %+v): %v", x, y, i != k)
			}
		}
	}
	// A list without elements may be nil or not.
	x, y := holds(), holds()
	x.Trace.Devices = []int{}
	if !Same(x, y) || !Same(y, x) || !Same(api.Verdict{}, api.Verdict{}) {
		t.Error("two without devices are not alike")
	}
}
