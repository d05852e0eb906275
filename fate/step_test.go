package fate

import (
	"testing"

	"waystone/api"
)

// wantStep asks what becomes of a packet at a device.
func wantStep(t *testing.T, n api.Network, device int, a uint32, f api.Fate, p api.Port) {
	t.Helper()
	if got, out := Step(n, device, a); got != f || out != p {
		t.Errorf("%v: Step(%d, %d): %v, %v; want %v, %v", n, device, a, got, out, f, p)
	}
}

// two are two devices: 0 is joined to 1 by its port 1, and to itself by 2 and 3, to none by 0.
func two(l ...api.Rule) api.Network {
	return net(top([]api.Link{ln(1, 1, 0, 1), ln(0, 3, 0, 2)}, 4, 2), l...)
}

// ends are addresses in a range and at all ends.
func ends() []uint32 { return []uint32{0, 1, 55, 1 << 31, last - 1, last} }

// P9.1, Y1: where no rule takes the address it is lost, by whatever others are taken.
func TestStepLost(t *testing.T) {
	for _, n := range []api.Network{two(), two(by(1, 0, all(), 5), no(api.Drop, 1, all(), 5), no(api.Deny, 1, all(), 5)), two(no(api.Permit, 0, all(), 5)), two(by(0, 0, rg(20, 30), 5), no(api.Drop, 0, rg(40, 50), 5), no(api.Deny, 0, rg(60, 70), 5))} {
		for _, a := range ends() {
			wantStep(t, n, 0, a, api.Lost, api.Port{})
		}
	}
	n := two(by(0, 0, rg(1, last-1), 5), no(api.Deny, 0, rg(1, last-1), 5))
	wantStep(t, n, 0, 0, api.Lost, api.Port{})
	wantStep(t, n, 0, last, api.Lost, api.Port{})
}

// P9.1, Y1: what a Drop takes is dropped, if it is ahead of every Forward.
func TestStepDropped(t *testing.T) {
	for _, n := range []api.Network{
		two(no(api.Drop, 0, all(), 0)),
		two(no(api.Drop, 0, all(), 5), no(api.Permit, 0, all(), 9)),
		two(no(api.Drop, 0, all(), 6), by(0, 0, all(), 5)),
		two(by(0, 0, all(), 5), no(api.Drop, 0, all(), 6)),
		two(no(api.Drop, 0, all(), 5), by(0, 1, all(), 5)),
		two(by(1, 0, all(), 9), no(api.Deny, 1, all(), 9), no(api.Drop, 0, all(), 5)),
	} {
		for _, a := range ends() {
			wantStep(t, n, 0, a, api.Dropped, api.Port{})
		}
	}
}

// P9.1, Y1: what a Forward takes goes by its port: it leaves by one that is joined to none, else it goes on, to a port of the same device too.
func TestStepForward(t *testing.T) {
	for port, f := range []api.Fate{api.Delivered, api.Looped, api.Looped, api.Looped} {
		for _, n := range []api.Network{
			two(by(0, port, all(), 0)),
			two(by(0, port, all(), 5), no(api.Permit, 0, all(), 0)),
			two(by(0, port, all(), 6), no(api.Drop, 0, all(), 5)),
			two(no(api.Drop, 0, all(), 5), by(0, port, all(), 6)),
			two(by(0, port, all(), 5), no(api.Drop, 0, all(), 5), by(0, (port+1)%4, all(), 5)),
			two(by(0, (port+1)%4, all(), 5), by(0, port, all(), 7), by(0, (port+2)%4, all(), 6)),
			two(no(api.Deny, 1, all(), 9), no(api.Drop, 1, all(), 9), by(0, port, all(), 5)),
			two(no(api.Deny, 0, rg(100, 200), 9), no(api.Drop, 0, rg(100, 200), 9), by(0, port, all(), 5)),
		} {
			for _, a := range ends() {
				wantStep(t, n, 0, a, f, pt(0, port))
			}
		}
	}
	n := two(by(1, 0, rg(0, 99), 5), by(1, 1, rg(100, last), 5))
	wantStep(t, n, 1, 99, api.Delivered, pt(1, 0))
	wantStep(t, n, 1, 100, api.Looped, pt(1, 1))
}

// P9.1, Y1: a device that denies the address does so ahead of what a Forward or a Drop would do, however great their Prio.
func TestStepDenied(t *testing.T) {
	deny := no(api.Deny, 0, all(), 3)
	for _, n := range []api.Network{
		two(deny),
		two(deny, by(0, 0, all(), 9)), two(by(0, 0, all(), 3), deny), two(by(0, 1, all(), 9), deny), two(by(0, 2, all(), 9), deny),
		two(deny, no(api.Drop, 0, all(), 9)), two(no(api.Drop, 0, all(), 3), deny),
		two(deny, no(api.Permit, 0, all(), 2), by(0, 0, all(), 9)), two(no(api.Permit, 0, all(), 2), deny, by(0, 0, all(), 9)), two(deny, no(api.Permit, 0, all(), 3), by(0, 0, all(), 9)),
		two(no(api.Permit, 1, all(), 9), deny),
	} {
		for _, a := range ends() {
			wantStep(t, n, 0, a, api.Denied, api.Port{})
		}
	}
}

// P9.1, Y1: a Permit that is ahead of every Deny leaves it to the Forward and Drop rules.
func TestStepPermitted(t *testing.T) {
	permit := no(api.Permit, 0, all(), 3)
	for _, l := range [][]api.Rule{{permit, no(api.Deny, 0, all(), 3)}, {permit, no(api.Deny, 0, all(), 2)}, {no(api.Deny, 0, all(), 2), permit}, {permit, no(api.Deny, 1, all(), 9)}} {
		for _, a := range ends() {
			wantStep(t, two(l...), 0, a, api.Lost, api.Port{})
			wantStep(t, two(append(l, no(api.Drop, 0, all(), 0))...), 0, a, api.Dropped, api.Port{})
			wantStep(t, two(append(l, by(0, 0, all(), 0))...), 0, a, api.Delivered, pt(0, 0))
			wantStep(t, two(append(l, by(0, 1, all(), 0))...), 0, a, api.Looped, pt(0, 1))
			wantStep(t, two(append(l, by(0, 3, all(), 0))...), 0, a, api.Looped, pt(0, 3))
		}
	}
}

// P9.1, Y1: a rule counts from its range's first address up to its last, wherever these are.
func TestStepEnds(t *testing.T) {
	for _, r := range []api.Range{rg(0, 0), rg(0, 9), rg(7, 7), rg(100, 200), rg(last-9, last-1), rg(last-9, last), rg(last, last), rg(1, last), rg(0, last-1)} {
		for _, a := range []uint32{r.From, r.To, r.From - 1, r.To + 1, 0, last, 50, 150} {
			took := r.From <= a && a <= r.To
			for _, c := range []struct {
				r api.Rule
				f api.Fate
				p api.Port
			}{{by(0, 0, r, 5), api.Delivered, pt(0, 0)}, {by(0, 1, r, 5), api.Looped, pt(0, 1)}, {no(api.Drop, 0, r, 5), api.Dropped, api.Port{}}, {no(api.Deny, 0, r, 5), api.Denied, api.Port{}}} {
				if !took {
					c.f, c.p = api.Lost, api.Port{}
				}
				wantStep(t, two(c.r), 0, a, c.f, c.p)
			}
		}
	}
}

// P9.1, Y1: over drawn networks a step is what its device's rules in order tell.
func TestStepDrawn(t *testing.T) {
	for _, n := range drawn(400) {
		for d := range n.T.Ports {
			for _, a := range addresses() {
				// What goes on comes to a device behind this one; of what does not, the whole trace is one device.
				one := follow(n, nil, d, a)
				f, p := one.Fate, one.Out
				if len(one.Devices) > 1 {
					r, _ := firstOf(n, d, a, api.Forward, api.Drop)
					f, p = api.Looped, pt(d, r.Port)
				}
				wantStep(t, n, d, a, f, p)
			}
		}
	}
}
