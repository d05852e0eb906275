package label

import (
	"testing"

	"waystone/api"
)

// wantOne asks what becomes at device 0 of all addresses, which are one atom.
func wantOne(t *testing.T, want int, l ...api.Rule) {
	t.Helper()
	n := net(top([]api.Link{ln(1, 1, 0, 1), ln(0, 3, 0, 2)}, 4, 2), l...)
	x := mustOf(t, n)
	wantLabels(t, "one atom", x, n)
	wantAt(t, "one atom", x, 0, 0, want, true)
}

// P10.1, L1: where no rule of its own takes the atom, a device loses it.
func TestLost(t *testing.T) {
	wantOne(t, -1)
	wantOne(t, -1, no(api.Permit, 0, all(), 5))
	wantOne(t, -1, by(1, 0, all(), 5), no(api.Drop, 1, all(), 6), no(api.Deny, 1, all(), 7))
	wantOne(t, -1, no(api.Permit, 0, all(), 6), no(api.Deny, 0, all(), 5))
}

// P10.1, L1: a Drop that is ahead of every Forward drops it, whatever may pass.
func TestDropped(t *testing.T) {
	wantOne(t, -2, no(api.Drop, 0, all(), 0))
	wantOne(t, -2, no(api.Drop, 0, all(), 5), by(0, 1, all(), 5))
	wantOne(t, -2, by(0, 1, all(), 5), no(api.Drop, 0, all(), 6))
	wantOne(t, -2, no(api.Drop, 0, all(), 5), no(api.Permit, 0, all(), 9))
	wantOne(t, -2, no(api.Drop, 0, all(), 5), by(1, 1, all(), 9), no(api.Deny, 1, all(), 9))
}

// P10.1, L1: the port by which it goes, from 0 on, whether that is joined to another device's, to one of its own, or to none.
func TestPorts(t *testing.T) {
	for port := range api.MaxPorts {
		wantOne(t, port, by(0, port, all(), 0))
		wantOne(t, port, by(0, port, all(), 6), no(api.Drop, 0, all(), 5))
		wantOne(t, port, by(0, port, all(), 5), no(api.Drop, 0, all(), 5))
		wantOne(t, port, no(api.Permit, 0, all(), 5), no(api.Deny, 0, all(), 5), by(0, port, all(), 0))
	}
}

// P10.1, L1: of two rules of a device that send the same address, it goes by the greater Prio's, of one Prio by the lesser ID's.
func TestTwoPorts(t *testing.T) {
	for p := range api.MaxPorts {
		for q := range api.MaxPorts {
			wantOne(t, p, by(0, p, all(), 5), by(0, q, all(), 5))
			wantOne(t, p, by(0, p, all(), 6), by(0, q, all(), 5))
			wantOne(t, q, by(0, p, all(), 5), by(0, q, all(), 6))
			wantOne(t, q, by(0, p, all(), 5), by(0, q, all(), api.MaxPrio), by(0, p, all(), 6))
			wantOne(t, p, by(0, p, all(), 5), by(1, 0, all(), 9), by(0, q, all(), 4))
		}
	}
}

// P10.1, L1: what a device denies is denied, however great the Prio of a Forward or a Drop.
func TestDenied(t *testing.T) {
	wantOne(t, -3, no(api.Deny, 0, all(), 0))
	wantOne(t, -3, by(0, 1, all(), 9), no(api.Deny, 0, all(), 0))
	wantOne(t, -3, no(api.Drop, 0, all(), 9), no(api.Deny, 0, all(), 0))
	wantOne(t, -3, no(api.Permit, 1, all(), 9), no(api.Deny, 0, all(), 0))
}

// P10.1, L1: a Permit that is ahead of every Deny, and a Deny that is ahead of every Permit, with what each leaves to the other rules.
func TestPermitAndDeny(t *testing.T) {
	permit, deny := no(api.Permit, 0, all(), 5), no(api.Deny, 0, all(), 5)
	above, below := no(api.Permit, 0, all(), 6), no(api.Permit, 0, all(), 4)
	for _, c := range []struct {
		r    api.Rule
		want int
	}{{no(api.Permit, 1, all(), 0), -1}, {no(api.Drop, 0, all(), 0), -2}, {by(0, 0, all(), 0), 0}, {by(0, 1, all(), 0), 1}, {by(0, 3, all(), 0), 3}} {
		wantOne(t, c.want, permit, deny, c.r)
		wantOne(t, c.want, deny, above, c.r)
		wantOne(t, c.want, c.r, below, deny, above)
		wantOne(t, -3, deny, permit, c.r)
		wantOne(t, -3, below, deny, c.r)
		wantOne(t, -3, c.r, deny, below)
	}
}

// P10.1, L1: Atoms and Atom at the first and the last one, below 0, at how many there are, and at far numbers.
func TestAtomEnds(t *testing.T) {
	l := mustOf(t, ordinary())
	if l.Atoms() != 16 {
		t.Errorf("%d atoms", l.Atoms())
	}
	wantAtom(t, "the first", l, 0, rg(0, 49), true)
	wantAtom(t, "the second", l, 1, rg(50, 50), true)
	wantAtom(t, "the last but one", l, 14, rg(220, last-1), true)
	wantAtom(t, "the last", l, 15, rg(last, last), true)
	for _, i := range beyond(16) {
		wantAtom(t, "beyond", l, i, api.Range{}, false)
	}
}

// P10.1, L1: At of each device and each atom, of each beside numbers that there are not, and of such numbers alone.
func TestAtEnds(t *testing.T) {
	for _, n := range rights() {
		l := mustOf(t, n)
		many := len(n.T.Ports)
		for d := range many {
			for i := range l.Atoms() {
				r, _ := l.Atom(i)
				wantAt(t, "each", l, d, i, becomes(n, d, r.From), true)
			}
			for _, i := range beyond(l.Atoms()) {
				wantAt(t, "no such atom", l, d, i, 0, false)
			}
		}
		for _, d := range beyond(many) {
			for i := range l.Atoms() {
				wantAt(t, "no such device", l, d, i, 0, false)
			}
			for _, i := range beyond(l.Atoms()) {
				wantAt(t, "no such", l, d, i, 0, false)
			}
		}
	}
}
