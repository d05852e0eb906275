package flow

import (
	"testing"

	"waystone/api"
)

// zones are those of Fates, by fates: lost, dropped, denied, delivered, looped.
type zones [5][]api.Range

// wantFates asks Fates.
func wantFates(t *testing.T, what string, n api.Network, device int, want zones) {
	t.Helper()
	got, e := Fates(n, device)
	for f := range want {
		wantZone(t, what, got[f], e, want[f])
	}
}

// wantNoFates asks Fates of a device that there is not.
func wantNoFates(t *testing.T, n api.Network, device int) {
	t.Helper()
	got, e := Fates(n, device)
	for _, z := range got {
		wantNone(t, "Fates", z, e)
	}
}

// W1, P11.1: an ordinary network, from each of its devices: packets are denied, dropped, lost, delivered and looped at the first device, and at later ones.
func TestFates(t *testing.T) {
	dropped := zn(rg(110, 119), rg(170, 173), rg(190, 193))
	denied := zn(rg(120, 129), rg(174, 176), rg(194, 196))
	looped := zn(rg(140, 149), rg(160, 169), rg(180, 189))
	for device, want := range []zones{
		{
			api.Lost:      zn(rg(0, 99), rg(130, 139), rg(177, 179), rg(197, 199), rg(230, last)),
			api.Dropped:   append(zn(dropped...), rg(210, 219)),
			api.Denied:    append(zn(denied...), rg(220, 229)),
			api.Delivered: zn(rg(100, 109), rg(150, 159), rg(200, 209)),
			api.Looped:    looped,
		},
		{
			api.Lost:      zn(rg(0, 99), rg(130, 139), rg(177, 179), rg(197, last)),
			api.Dropped:   dropped,
			api.Denied:    denied,
			api.Delivered: zn(rg(100, 109), rg(150, 159)),
			api.Looped:    looped,
		},
		{zn(rg(0, 149), rg(177, last)), zn(rg(170, 173)), zn(rg(174, 176)), zn(rg(150, 159)), zn(rg(160, 169))},
		{zn(rg(0, 179), rg(197, last)), zn(rg(190, 193)), zn(rg(194, 196)), nil, zn(rg(180, 189))},
		{api.Delivered: zn(all())},
	} {
		wantFates(t, "ordinary", ordinary(), device, want)
	}
}

// W1, P11.1: the fate of all addresses is one: lost without rules, and what a rule of all says.
func TestFatesOfAll(t *testing.T) {
	for _, n := range rights() {
		for device := range n.T.Ports {
			wantFates(t, "without rules", with(n), device, zones{api.Lost: zn(all())})
			wantFates(t, "nobody takes it", with(n, no(api.Permit, device, all(), 5)), device, zones{api.Lost: zn(all())})
			wantFates(t, "a drop", with(n, no(api.Drop, device, all(), 0)), device, zones{api.Dropped: zn(all())})
			wantFates(t, "a deny", with(n, no(api.Drop, device, all(), 9), no(api.Deny, device, all(), 0)), device, zones{api.Denied: zn(all())})
		}
	}
	for k := 1; k <= api.MaxDevices; k++ {
		for device := range k {
			wantFates(t, "a line", line(k), device, zones{api.Delivered: zn(all())})
			wantFates(t, "a ring", ring(k), device, zones{api.Looped: zn(all())})
		}
	}
	wantFates(t, "joined to itself", net(top([]api.Link{ln(0, 0, 0, 1)}, 2), by(0, 1, all(), 0)), 0, zones{api.Looped: zn(all())})
}

// W1, P11.1: rules of one address, of the first and of the last one, at the first device and at a later one.
func TestFatesOfOneAddress(t *testing.T) {
	for _, c := range []struct{ r, ahead, behind api.Range }{
		{rg(7, 7), rg(0, 6), rg(8, last)},
		{rg(last-1, last-1), rg(0, last-2), rg(last, last)},
		{rg(1<<31, 1<<31), rg(0, 1<<31-1), rg(1<<31+1, last)},
	} {
		wantOne(t, c.r, zn(c.ahead, c.behind))
	}
	wantOne(t, rg(0, 0), zn(rg(1, last)))
	wantOne(t, rg(last, last), zn(rg(0, last-1)))
	wantOne(t, rg(0, 99), zn(rg(100, last)))
	wantOne(t, rg(100, last), zn(rg(0, 99)))
	wantOne(t, all(), nil)
}

// wantOne asks what becomes of one range, and of the others.
func wantOne(t *testing.T, r api.Range, others []api.Range) {
	t.Helper()
	x := line(2)
	for device := range 2 {
		wantFates(t, "forwarded", with(x, by(0, 1, all(), 0), by(1, 1, r, 0)), device, zones{api.Lost: others, api.Delivered: zn(r)})
		wantFates(t, "by the other port", with(x, by(0, 1, all(), 0), by(1, 0, r, 0), by(1, 1, all(), 0)), device, zones{api.Looped: zn(r), api.Delivered: others})
		wantFates(t, "dropped", with(x, by(0, 1, all(), 0), no(api.Drop, 1, r, 1), by(1, 1, all(), 0)), device, zones{api.Dropped: zn(r), api.Delivered: others})
		wantFates(t, "denied", with(x, by(0, 1, all(), 0), no(api.Deny, 1, r, 1), by(1, 1, all(), 0)), device, zones{api.Denied: zn(r), api.Delivered: others})
		wantFates(t, "permitted", with(x, by(0, 1, all(), 0), no(api.Deny, 1, all(), 1), no(api.Permit, 1, r, 2), no(api.Drop, 1, all(), 0)), device, zones{api.Denied: others, api.Dropped: zn(r)})
	}
	wantFates(t, "lost at the first", with(x, by(0, 1, r, 0), by(1, 1, all(), 0)), 0, zones{api.Lost: others, api.Delivered: zn(r)})
	wantFates(t, "dropped at the first", with(x, by(0, 1, all(), 0), by(1, 1, all(), 0), no(api.Drop, 0, r, 1)), 0, zones{api.Dropped: zn(r), api.Delivered: others})
	wantFates(t, "dropped there, from the second", with(x, by(0, 1, all(), 0), by(1, 1, all(), 0), no(api.Drop, 0, r, 1)), 1, zones{api.Delivered: zn(all())})
	wantFates(t, "denied at the first", with(x, by(0, 1, all(), 0), by(1, 1, all(), 0), no(api.Deny, 0, r, 1)), 0, zones{api.Denied: zn(r), api.Delivered: others})
}

// W1, P11.1: ranges that touch are told as one: such as several rules make, at one device or at several.
func TestFatesTouch(t *testing.T) {
	var l []api.Rule
	for i := range uint32(20) {
		l = append(l, by(0, int(i%2), rg(i, i), 0))
	}
	apart := net(top(nil, 2), l...)
	wantFates(t, "one by one", apart, 0, zones{api.Lost: zn(rg(20, last)), api.Delivered: zn(rg(0, 19))})
	wantFates(t, "both lost", net(top(nil, 1), no(api.Permit, 0, rg(5, 9), 0), no(api.Permit, 0, rg(8, last), 0)), 0, zones{api.Lost: zn(all())})
	x := line(3)
	wantFates(t, "dropped by three", with(x, by(0, 1, all(), 0), by(1, 1, all(), 0), by(2, 1, all(), 0), no(api.Drop, 2, rg(0, 9), 1), no(api.Drop, 0, rg(10, 19), 1), no(api.Drop, 1, rg(20, last-1), 1)), 0, zones{api.Dropped: zn(rg(0, last-1)), api.Delivered: zn(rg(last, last))})
	wantFates(t, "one between", with(x, no(api.Drop, 0, rg(0, 9), 0), no(api.Drop, 0, rg(11, last), 0)), 0, zones{api.Lost: zn(rg(10, 10)), api.Dropped: zn(rg(0, 9), rg(11, last))})
}

// W1, P11.1: the greatest network, with as many ranges as its rules can make, each of a fate of its own.
func TestFatesMost(t *testing.T) {
	n := most()
	n.T.Links = n.T.Links[:0]
	var want zones
	behind := uint32(0)
	for i := range n.Rules {
		r := rg(10*uint32(i), 10*uint32(i)+4)
		n.Rules[i] = api.Rule{ID: api.MaxID - api.MaxRules + 1 + i, Device: 7, Prio: api.MaxPrio - i, Kind: []api.RuleKind{api.Forward, api.Drop, api.Deny}[i%3], R: r}
		f := []api.Fate{api.Delivered, api.Dropped, api.Denied}[i%3]
		want[f] = append(want[f], r)
		behind = r.To + 1
		want[api.Lost] = append(want[api.Lost], rg(behind, behind+4))
	}
	want[api.Lost][len(n.Rules)-1] = rg(behind, last)
	wantFates(t, "most", n, 7, want)
	wantFates(t, "most, without rules there", n, 0, zones{api.Lost: zn(all())})
	// All addresses go from each device to the one over against it, and back.
	n = most()
	for i := range n.Rules {
		n.Rules[i].R = all()
	}
	for device := range n.T.Ports {
		wantFates(t, "most, looped", n, device, zones{api.Looped: zn(all())})
	}
}

// W1, P11.1: from devices that there are not: below 0, the first number above the last one, and far ones.
func TestFatesNoDevice(t *testing.T) {
	for _, n := range append(rights(), with(ordinary())) {
		for _, device := range beyond(n) {
			wantNoFates(t, n, device)
		}
	}
	for _, device := range append(far(), 0, 1) {
		wantNoFates(t, api.Network{}, device)
	}
}
