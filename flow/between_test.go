package flow

import (
	"testing"

	"waystone/api"
)

// wantVisits asks Visits.
func wantVisits(t *testing.T, what string, n api.Network, a, b int, want []api.Range) {
	t.Helper()
	z, e := Visits(n, a, b)
	wantZone(t, what+": Visits", z, e, want)
}

// wantDelivers asks Delivers.
func wantDelivers(t *testing.T, what string, n api.Network, a, b int, want []api.Range) {
	t.Helper()
	z, e := Delivers(n, a, b)
	wantZone(t, what+": Delivers", z, e, want)
}

// W1, P11.1: an ordinary network, between any two devices: who comes there is lost, dropped, denied, delivered or goes on, or comes twice.
func TestVisits(t *testing.T) {
	everyone := zn(all())
	for a, row := range [][][]api.Range{
		{everyone, zn(rg(100, 199)), zn(rg(150, 179)), zn(rg(180, 199)), nil},
		{zn(rg(140, 149)), everyone, zn(rg(150, 179)), zn(rg(180, 199)), nil},
		{nil, zn(rg(160, 169)), everyone, nil, nil},
		{nil, zn(rg(185, 189)), nil, everyone, nil},
		{nil, nil, nil, nil, everyone},
	} {
		for b, want := range row {
			wantVisits(t, "ordinary", ordinary(), a, b, want)
		}
	}
}

// W1, P11.1: an ordinary network, between any two devices: who is not delivered has no part in it, though he comes there.
func TestDelivers(t *testing.T) {
	behind := zn(rg(150, 159))
	for a, row := range [][][]api.Range{
		{zn(rg(200, 209)), zn(rg(100, 109)), behind, nil, nil},
		{nil, zn(rg(100, 109)), behind, nil, nil},
		{nil, nil, behind, nil, nil},
		{nil, nil, nil, nil, nil},
		{nil, nil, nil, nil, zn(all())},
	} {
		for b, want := range row {
			wantDelivers(t, "ordinary", ordinary(), a, b, want)
		}
	}
}

// W1, P11.1: nobody comes, and all come: lines and rings of all lengths, also where both devices are the same one.
func TestNobodyAndAll(t *testing.T) {
	for k := 1; k <= api.MaxDevices; k++ {
		for a := range k {
			for b := range k {
				everyone, ahead, end := zn(all()), zn(all()), zn(all())
				if b < a {
					ahead = nil
				}
				if b < k-1 {
					end = nil
				}
				wantVisits(t, "a line", line(k), a, b, ahead)
				wantVisits(t, "a ring", ring(k), a, b, everyone)
				wantDelivers(t, "a line", line(k), a, b, end)
				wantDelivers(t, "a ring", ring(k), a, b, nil)
			}
		}
	}
	for _, n := range rights() {
		for a := range n.T.Ports {
			wantVisits(t, "a device itself", n, a, a, zn(all()))
			for b := range n.T.Ports {
				wantDelivers(t, "without rules", with(n), a, b, nil)
				if a != b {
					wantVisits(t, "without rules", with(n), a, b, nil)
				}
			}
		}
	}
}

// W1, P11.1: who comes, whatever becomes of it there, and who is delivered there, over ranges that begin at the first address, that end at the last one, of one address and of all; those that touch are one.
func TestComesAndEnds(t *testing.T) {
	for _, r := range []api.Range{rg(0, 0), rg(0, 99), rg(7, 7), rg(100, 199), rg(100, last), rg(last, last), all()} {
		for name, rules := range map[string][]api.Rule{
			"lost":      nil,
			"dropped":   {no(api.Drop, 1, all(), 0)},
			"denied":    {by(1, 1, all(), 0), no(api.Deny, 1, all(), 0)},
			"delivered": {by(1, 1, all(), 0)},
			"twice":     {by(1, 0, all(), 0)},
		} {
			half := r.From + (r.To-r.From)/2
			n := with(line(2), append(rules, by(0, 1, rg(r.From, half), 5), by(0, 1, rg(half, r.To), 6))...)
			var comes, leaves, back []api.Range
			comes = zn(r)
			switch name {
			case "delivered":
				leaves = zn(r)
			case "twice":
				back = zn(r)
			}
			wantVisits(t, name, n, 0, 1, comes)
			wantVisits(t, name, n, 0, 0, zn(all()))
			wantVisits(t, name, n, 1, 1, zn(all()))
			wantDelivers(t, name, n, 0, 1, leaves)
			wantDelivers(t, name, n, 0, 0, nil)
			// From 1 all go back to 0, where some come to 1 once more.
			f, e := Fates(n, 0)
			wantZone(t, name+": looped", f[api.Looped], e, back)
			if name == "twice" {
				wantVisits(t, name, n, 1, 0, zn(all()))
			} else {
				wantVisits(t, name, n, 1, 0, nil)
			}
		}
	}
}

// W1, P11.1: who goes through a device is not delivered by it; who leaves it by one of its two open ports is.
func TestDeliversByAnyPort(t *testing.T) {
	n := net(top([]api.Link{ln(0, 1, 1, 0)}, 3, 3), by(0, 0, rg(0, 9), 5), by(0, 2, rg(10, 19), 5), by(0, 1, rg(20, last), 5), by(1, 1, rg(0, 29), 5), by(1, 2, rg(30, last-1), 5))
	wantDelivers(t, "two ports", n, 0, 0, zn(rg(0, 19)))
	wantDelivers(t, "two ports", n, 0, 1, zn(rg(20, last-1)))
	wantDelivers(t, "two ports", n, 1, 1, zn(rg(0, last-1)))
	wantDelivers(t, "two ports", n, 1, 0, nil)
	wantVisits(t, "two ports", n, 0, 1, zn(rg(20, last)))
}

// W1, P11.1: devices that there are not: the first one, the second one, and both.
func TestBetweenNoDevice(t *testing.T) {
	for _, n := range append(rights(), with(ordinary())) {
		for _, x := range beyond(n) {
			for _, d := range []int{0, len(n.T.Ports) - 1} {
				for _, pair := range [][2]int{{x, d}, {d, x}, {x, x}, {x, -1}, {len(n.T.Ports), x}} {
					z, e := Visits(n, pair[0], pair[1])
					wantNone(t, "Visits", z, e)
					z, e = Delivers(n, pair[0], pair[1])
					wantNone(t, "Delivers", z, e)
				}
			}
		}
	}
}
