package query

import (
	"testing"

	"waystone/api"
)

// asking is a query with the verdict that it should have.
type asking struct {
	q api.Query
	v api.Verdict
}

// wantAll asks for verdicts in a network, whatever the other one is.
func wantAll(t *testing.T, what string, n api.Network, l ...asking) {
	t.Helper()
	for _, x := range l {
		for _, other := range []api.Network{{}, n, line(8), {T: n.T}, {Rules: n.Rules}} {
			want(t, what, n, other, x.q, x.v)
		}
	}
}

// Q2, P12.1: Reach in an ordinary network: that holds, and that is broken at the range's first address, within it, and at its last one, by all that is not delivered there.
func TestRunReach(t *testing.T) {
	wantAll(t, "Reach", ordinary(), []asking{
		{reach(0, 1, rg(100, 109)), holds()},
		{reach(0, 1, rg(104, 104)), holds()},
		{reach(0, 1, rg(100, 110)), broken(0, 110, tr(api.Dropped, 0, 1))},
		{reach(0, 1, rg(99, 109)), broken(0, 99, tr(api.Lost, 0))},
		{reach(0, 1, rg(105, 125)), broken(0, 110, tr(api.Dropped, 0, 1))},
		{reach(0, 1, rg(150, 159)), broken(0, 150, out(1, 0, 1, 2))},
		{reach(0, 1, rg(125, 125)), broken(0, 125, tr(api.Denied, 0, 1))},
		{reach(0, 0, rg(200, 209)), holds()},
		{reach(0, 0, rg(200, 210)), broken(0, 210, tr(api.Dropped, 0))},
		{reach(0, 0, rg(201, last)), broken(0, 210, tr(api.Dropped, 0))},
		{reach(0, 0, rg(220, 220)), broken(0, 220, tr(api.Denied, 0))},
		{reach(0, 2, rg(150, 159)), holds()},
		{reach(0, 2, rg(150, 160)), broken(0, 160, tr(api.Looped, 0, 1, 2, 1))},
		{reach(0, 2, rg(149, 149)), broken(0, 149, tr(api.Looped, 0, 1, 0))},
		{reach(0, 2, all()), broken(0, 0, tr(api.Lost, 0))},
		{reach(0, 2, rg(200, 200)), broken(0, 200, out(0, 0))},
		{reach(0, 3, rg(180, 199)), broken(0, 180, tr(api.Looped, 0, 1, 3, 3))},
		{reach(1, 2, rg(150, 159)), holds()},
		{reach(1, 1, rg(100, 109)), holds()},
		{reach(2, 2, rg(150, 159)), holds()},
		{reach(2, 1, rg(160, 161)), broken(2, 160, tr(api.Looped, 2, 1, 2))},
		{reach(3, 1, rg(185, 185)), broken(3, 185, tr(api.Looped, 3, 1, 3))},
		{reach(3, 2, rg(0, 0)), broken(3, 0, tr(api.Lost, 3))},
		{reach(4, 4, all()), holds()},
		{reach(4, 4, rg(last, last)), holds()},
		{reach(4, 0, all()), broken(4, 0, out(0, 4))},
		{reach(4, 3, rg(last, last)), broken(4, last, out(0, 4))},
		{reach(0, 4, rg(100, last)), broken(0, 100, out(3, 0, 1))},
	}...)
}

// Q2, P12.1: NoLoop in an ordinary network: from the least device first, whatever later ones do at lesser addresses.
func TestRunNoLoop(t *testing.T) {
	n := ordinary()
	wantAll(t, "NoLoop", n, []asking{
		{noLoop(rg(0, 139)), holds()},
		{noLoop(rg(200, last)), holds()},
		{noLoop(rg(150, 159)), holds()},
		{noLoop(rg(0, 140)), broken(0, 140, tr(api.Looped, 0, 1, 0))},
		{noLoop(all()), broken(0, 140, tr(api.Looped, 0, 1, 0))},
		{noLoop(rg(145, 200)), broken(0, 145, tr(api.Looped, 0, 1, 0))},
		{noLoop(rg(150, 199)), broken(0, 160, tr(api.Looped, 0, 1, 2, 1))},
		{noLoop(rg(170, 180)), broken(0, 180, tr(api.Looped, 0, 1, 3, 3))},
		{noLoop(rg(185, 185)), broken(0, 185, tr(api.Looped, 0, 1, 3, 1))},
	}...)
	// Nothing goes on from 0 up to 189 any more: the least device that loops is 1.
	n.Rules[0].R.From = 190
	wantAll(t, "NoLoop, from 1", n, []asking{
		{noLoop(rg(0, 159)), holds()},
		{noLoop(all()), broken(1, 160, tr(api.Looped, 1, 2, 1))},
		{noLoop(rg(165, 165)), broken(1, 165, tr(api.Looped, 1, 2, 1))},
		{noLoop(rg(182, last)), broken(1, 182, tr(api.Looped, 1, 3, 3))},
	}...)
	// 1 sends nothing to 3, and nothing to 2: the last device alone loops.
	n.Rules[9].Kind, n.Rules[10].Kind = api.Drop, api.Drop
	wantAll(t, "NoLoop, from 3", n, []asking{
		{noLoop(rg(0, 179)), holds()},
		{noLoop(rg(185, last)), holds()},
		{noLoop(rg(0, 180)), broken(3, 180, tr(api.Looped, 3, 3))},
		{noLoop(all()), broken(3, 180, tr(api.Looped, 3, 3))},
	}...)
	n.Rules = append(n.Rules, id(99, by(1, 2, rg(189, 189), 9)))
	wantAll(t, "NoLoop, first by device", n, asking{noLoop(all()), broken(1, 189, tr(api.Looped, 1, 3, 1))})
}

// Q2, P12.1: NoHole in an ordinary network, from the least device and from later ones only.
func TestRunNoHole(t *testing.T) {
	n := ordinary()
	wantAll(t, "NoHole", n, []asking{
		{noHole(all()), broken(0, 0, tr(api.Lost, 0))},
		{noHole(rg(last, last)), broken(0, last, tr(api.Lost, 0))},
		{noHole(rg(100, 129)), broken(2, 100, tr(api.Lost, 2))},
		{noHole(rg(129, 130)), broken(0, 130, tr(api.Lost, 0, 1))},
		{noHole(rg(125, 155)), broken(0, 130, tr(api.Lost, 0, 1))},
		{noHole(rg(150, 159)), broken(3, 150, tr(api.Lost, 3))},
		{noHole(rg(170, 176)), broken(3, 170, tr(api.Lost, 3))},
		{noHole(rg(170, 177)), broken(0, 177, tr(api.Lost, 0, 1, 2))},
		{noHole(rg(180, 184)), broken(2, 180, tr(api.Lost, 2))},
		{noHole(rg(190, 199)), broken(0, 197, tr(api.Lost, 0, 1, 3))},
		{noHole(rg(200, 229)), broken(1, 200, tr(api.Lost, 1))},
	}...)
	// A rule of each device but the last takes all: none but the last one's are lost.
	for d := range 4 {
		n.Rules = append(n.Rules, id(100+d, no(api.Drop, d, all(), 0)))
	}
	wantAll(t, "NoHole, dropped instead", n, asking{noHole(all()), holds()}, asking{noHole(rg(0, 0)), holds()})
	n.Rules[19].R.To = last - 1
	wantAll(t, "NoHole, of the last device and address", n, []asking{
		{noHole(rg(0, last-1)), holds()},
		{noHole(all()), broken(4, last, tr(api.Lost, 4))},
		{noHole(rg(last, last)), broken(4, last, tr(api.Lost, 4))},
	}...)
}

// Q2, P12.1: Isolated in an ordinary network: who comes there breaks it, whatever becomes of it there, and behind.
func TestRunIsolated(t *testing.T) {
	wantAll(t, "Isolated", ordinary(), []asking{
		{isolated(0, 4, all()), holds()},
		{isolated(4, 3, all()), holds()},
		{isolated(2, 0, all()), holds()},
		{isolated(3, 2, all()), holds()},
		{isolated(0, 3, rg(100, 179)), holds()},
		{isolated(0, 3, rg(200, last)), holds()},
		{isolated(0, 3, rg(100, 180)), broken(0, 180, tr(api.Looped, 0, 1, 3, 3))},
		{isolated(0, 3, all()), broken(0, 180, tr(api.Looped, 0, 1, 3, 3))},
		{isolated(0, 3, rg(197, 197)), broken(0, 197, tr(api.Lost, 0, 1, 3))},
		{isolated(0, 1, rg(0, 99)), holds()},
		{isolated(0, 1, rg(0, 100)), broken(0, 100, out(3, 0, 1))},
		{isolated(0, 1, rg(110, 120)), broken(0, 110, tr(api.Dropped, 0, 1))},
		{isolated(0, 1, rg(120, 120)), broken(0, 120, tr(api.Denied, 0, 1))},
		{isolated(0, 1, rg(155, 300)), broken(0, 155, out(1, 0, 1, 2))},
		{isolated(0, 1, rg(220, 229)), holds()},
		{isolated(0, 2, all()), broken(0, 150, out(1, 0, 1, 2))},
		{isolated(0, 2, rg(165, 165)), broken(0, 165, tr(api.Looped, 0, 1, 2, 1))},
		{isolated(0, 0, rg(7, 9)), broken(0, 7, tr(api.Lost, 0))},
		{isolated(1, 0, all()), broken(1, 140, tr(api.Looped, 1, 0, 1))},
		{isolated(2, 1, all()), broken(2, 160, tr(api.Looped, 2, 1, 2))},
		{isolated(3, 1, rg(0, 185)), broken(3, 185, tr(api.Looped, 3, 1, 3))},
		{isolated(4, 4, rg(last, last)), broken(4, last, out(0, 4))},
		{isolated(3, 3, all()), broken(3, 0, tr(api.Lost, 3))},
	}...)
}

// Q2, P12.1: Waypoint in an ordinary network: who is not delivered by a port of B breaks nothing.
func TestRunWaypoint(t *testing.T) {
	wantAll(t, "Waypoint", ordinary(), []asking{
		{waypoint(0, 2, 1, all()), holds()},
		{waypoint(0, 2, 0, all()), holds()},
		{waypoint(0, 2, 2, all()), holds()},
		{waypoint(0, 2, 3, all()), broken(0, 150, out(1, 0, 1, 2))},
		{waypoint(0, 2, 3, rg(0, 150)), broken(0, 150, out(1, 0, 1, 2))},
		{waypoint(0, 2, 4, rg(154, 154)), broken(0, 154, out(1, 0, 1, 2))},
		{waypoint(0, 2, 3, rg(100, 149)), holds()},
		{waypoint(0, 2, 3, rg(160, last)), holds()},
		{waypoint(0, 1, 2, all()), broken(0, 100, out(3, 0, 1))},
		{waypoint(0, 1, 2, rg(105, 300)), broken(0, 105, out(3, 0, 1))},
		{waypoint(0, 0, 1, all()), broken(0, 200, out(0, 0))},
		{waypoint(0, 0, 0, all()), holds()},
		{waypoint(0, 3, 4, all()), holds()},
		{waypoint(1, 2, 0, all()), broken(1, 150, out(1, 1, 2))},
		{waypoint(2, 2, 1, all()), broken(2, 150, out(1, 2))},
		{waypoint(2, 2, 2, all()), holds()},
		{waypoint(4, 4, 0, all()), broken(4, 0, out(0, 4))},
		{waypoint(4, 4, 3, rg(last, last)), broken(4, last, out(0, 4))},
		{waypoint(4, 4, 4, all()), holds()},
		{waypoint(4, 0, 1, all()), holds()},
	}...)
}

// Q2, P12.1: Waypoint, where some come to B past W and some do not: two ways to one device, by addresses.
func TestRunTwoWays(t *testing.T) {
	n := net(top([]api.Link{ln(0, 0, 1, 0), ln(0, 1, 2, 0), ln(1, 1, 3, 0), ln(2, 1, 3, 1)}, 2, 2, 2, 3),
		by(0, 0, all(), 5), by(0, 1, rg(100, 199), 6), by(1, 1, all(), 0), by(2, 1, all(), 0), by(3, 2, all(), 0))
	wantAll(t, "two ways", n, []asking{
		{waypoint(0, 3, 1, rg(0, 99)), holds()},
		{waypoint(0, 3, 1, rg(0, 100)), broken(0, 100, out(2, 0, 2, 3))},
		{waypoint(0, 3, 1, all()), broken(0, 100, out(2, 0, 2, 3))},
		{waypoint(0, 3, 2, rg(100, 199)), holds()},
		{waypoint(0, 3, 2, rg(100, 200)), broken(0, 200, out(2, 0, 1, 3))},
		{waypoint(0, 3, 2, all()), broken(0, 0, out(2, 0, 1, 3))},
		{isolated(0, 2, all()), broken(0, 100, out(2, 0, 2, 3))},
		{isolated(0, 1, rg(150, 250)), broken(0, 200, out(2, 0, 1, 3))},
		{reach(0, 3, all()), holds()},
		{noLoop(all()), holds()},
		{noHole(all()), holds()},
	}...)
}

// Q2, P12.1: networks without rules: all are lost where they come, from the first device on.
func TestRunWithoutRules(t *testing.T) {
	for _, x := range rights() {
		n := with(x)
		end := len(n.T.Ports) - 1
		for _, r := range []api.Range{all(), rg(0, 0), rg(last, last), rg(100, 199)} {
			lost := broken(end, r.From, tr(api.Lost, end))
			wantAll(t, "without rules", n, []asking{
				{reach(end, 0, r), lost},
				{reach(end, end, r), lost},
				{noLoop(r), holds()},
				{noHole(r), broken(0, r.From, tr(api.Lost, 0))},
				{isolated(end, end, r), lost},
				{waypoint(end, end, 0, r), holds()},
			}...)
			want(t, "without rules", n, n, same(r), holds())
			if end > 0 {
				wantAll(t, "without rules", n, asking{isolated(end, 0, r), holds()}, asking{isolated(0, end, r), holds()})
			}
		}
	}
}

// Q2, P12.1: lines and rings of all lengths, up to the most devices, between any two of them.
func TestRunLinesAndRings(t *testing.T) {
	for k := 1; k <= api.MaxDevices; k++ {
		for a := range k {
			var ahead, round []int
			for d := range k {
				if a+d < k {
					ahead = append(ahead, a+d)
				}
				round = append(round, (a+d)%k)
			}
			ends, loops := out(1, ahead...), tr(api.Looped, append(round, a)...)
			r := rg(uint32(a), last)
			for b := range k {
				reaches, comes := broken(a, r.From, ends), holds()
				if b == k-1 {
					reaches = holds()
				}
				if b >= a {
					comes = broken(a, r.From, ends)
				}
				wantAll(t, "a line", line(k), asking{reach(a, b, r), reaches}, asking{isolated(a, b, r), comes})
				wantAll(t, "a ring", ring(k), asking{reach(a, b, r), broken(a, r.From, loops)}, asking{isolated(a, b, r), broken(a, r.From, loops)}, asking{waypoint(a, b, k-1, r), holds()})
				past := holds()
				if b < a {
					past = broken(a, r.From, ends)
				}
				wantAll(t, "a line", line(k), asking{waypoint(a, k-1, b, r), past})
			}
			wantAll(t, "a line", line(k), asking{noLoop(r), holds()}, asking{noHole(r), holds()})
		}
		var round []int
		for d := range k + 1 {
			round = append(round, d%k)
		}
		wantAll(t, "a ring", ring(k), asking{noLoop(all()), broken(0, 0, tr(api.Looped, round...))}, asking{noLoop(rg(last, last)), broken(0, last, tr(api.Looped, round...))}, asking{noHole(all()), holds()})
	}
}

// Q2, P12.1: A, B and W are one device.
func TestRunOneDevice(t *testing.T) {
	n := ordinary()
	for d := range 5 {
		wantAll(t, "one device", n, asking{waypoint(d, d, d, all()), holds()})
		for _, r := range []api.Range{all(), rg(100, 199), rg(last, last)} {
			wantAll(t, "one device", n, asking{isolated(d, d, r), broken(d, r.From, trace(t, n, d, r.From))})
		}
	}
}

// Q2, P12.1: queries that are not right, of each kind, also where all else would hold, and whatever the other network is.
func TestRunRefuses(t *testing.T) {
	n := line(8)
	for _, q := range []api.Query{
		{Kind: -1, R: all()}, {Kind: 6, R: all()},
		reach(8, 0, all()), reach(0, 8, all()), reach(-1, 7, all()), reach(0, 7, rg(1, 0)), {A: 0, B: 7, W: 1, R: all()}, {B: 7, R: all(), Other: "x"},
		{Kind: api.NoLoop, A: 1, R: all()}, {Kind: api.NoLoop, B: 1, R: all()}, {Kind: api.NoLoop, W: 1, R: all()}, {Kind: api.NoLoop, R: all(), Other: "x"}, noLoop(rg(last, 0)),
		{Kind: api.NoHole, A: 1, R: all()}, {Kind: api.NoHole, B: 1, R: all()}, {Kind: api.NoHole, W: 1, R: all()}, {Kind: api.NoHole, R: all(), Other: "x"}, noHole(rg(8, 7)),
		isolated(7, 8, all()), isolated(8, 0, all()), isolated(7, 0, rg(1, 0)), {Kind: api.Isolated, A: 7, W: 1, R: all()}, {Kind: api.Isolated, A: 7, R: all(), Other: "x"},
		waypoint(0, 7, 8, all()), waypoint(0, 8, 7, all()), waypoint(8, 7, 0, all()), waypoint(0, 7, 1, rg(1, 0)), {Kind: api.Waypoint, B: 7, W: 1, R: all(), Other: "x"},
		{Kind: api.Same, A: 1, R: all()}, {Kind: api.Same, B: 1, R: all()}, {Kind: api.Same, W: 1, R: all()}, same(rg(1, 0)),
	} {
		for _, other := range []api.Network{n, {}, ordinary(), {T: n.T}, {Rules: n.Rules}} {
			wantRefused(t, "not right", n, other, q)
		}
	}
}

// id is a rule with an ID.
func id(i int, r api.Rule) api.Rule {
	r.ID = i
	return r
}
