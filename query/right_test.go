package query

import (
	"math"
	"slices"
	"strings"
	"testing"

	"waystone/api"
)

// ofPair tells whether a kind asks of A and B.
func ofPair(k api.QueryKind) bool {
	return slices.Contains([]api.QueryKind{api.Reach, api.Isolated, api.Waypoint}, k)
}

// plain is a right query of a kind, of any network with a device.
func plain(k api.QueryKind) api.Query { return api.Query{Kind: k, R: rg(100, 199)} }

// Q1, P12.1: right queries of each kind, with all devices of which they may ask.
func TestRight(t *testing.T) {
	for _, n := range rights() {
		for _, k := range kinds() {
			wantRight(t, "plain", n, plain(k))
		}
		end := len(n.T.Ports) - 1
		for _, d := range []int{0, end / 2, end} {
			for _, e := range []int{0, end / 2, end} {
				wantRight(t, "Reach", n, reach(d, e, all()))
				wantRight(t, "Isolated", n, isolated(d, e, rg(7, 7)))
				for _, w := range []int{0, end / 2, end} {
					wantRight(t, "Waypoint", n, waypoint(d, e, w, rg(100, 199)))
				}
			}
		}
	}
}

// Q1, P12.1: there are six kinds.
func TestRightKinds(t *testing.T) {
	n := ordinary()
	for k := api.QueryKind(-20); k < 30; k++ {
		if slices.Contains(kinds(), k) {
			wantRight(t, "a kind", n, plain(k))
		} else {
			wantWrong(t, "no kind", n, plain(k))
		}
	}
	for _, x := range []int{math.MinInt, math.MinInt + 1, -1 << 32, -256, 256, 1 << 16, 1 << 32, 1<<32 + 1, 1<<32 + 5, math.MaxInt - 1, math.MaxInt} {
		wantWrong(t, "a far kind", n, plain(api.QueryKind(x)))
	}
}

// Q1, P12.1: ranges that are right, from one address to all, and such that are not, of each kind.
func TestRightRanges(t *testing.T) {
	n := ordinary()
	for _, k := range kinds() {
		q := plain(k)
		for _, q.R = range []api.Range{rg(0, 0), rg(0, 1), rg(7, 7), rg(99, 100), rg(1<<31-1, 1<<31), rg(last-1, last), rg(last, last), rg(0, last-1), rg(1, last), all()} {
			wantRight(t, "a range", n, q)
		}
		for _, q.R = range []api.Range{rg(1, 0), rg(100, 99), rg(199, 100), rg(1<<31, 1<<31-1), rg(last, last-1), rg(last, 0), rg(last, 1), rg(last-1, 0)} {
			wantWrong(t, "no range", n, q)
		}
	}
}

// fields are the numbers of devices in a query, by their names.
func fields(q *api.Query) map[string]*int {
	return map[string]*int{"A": &q.A, "B": &q.B, "W": &q.W}
}

// counts tells whether a field counts, of a kind.
func counts(k api.QueryKind, field string) bool {
	return k == api.Waypoint || ofPair(k) && field != "W"
}

// Q1, P12.1: A and B of Reach, Isolated and Waypoint, and W of Waypoint, are devices that there are: the first one, the last one, and none below or above; elsewhere they are 0, one field at a time.
func TestRightDevices(t *testing.T) {
	for _, n := range append(rights(), line(3)) {
		for _, k := range kinds() {
			for field := range fields(&api.Query{}) {
				q := plain(k)
				d := fields(&q)[field]
				for *d = range len(n.T.Ports) {
					if counts(k, field) || *d == 0 {
						wantRight(t, field, n, q)
					} else {
						wantWrong(t, field+" does not count", n, q)
					}
				}
				for _, *d = range beyond(n) {
					wantWrong(t, field, n, q)
				}
			}
		}
	}
}

// Q1, P12.1: where several fields are wrong, or one is wrong and the others are the last device.
func TestRightSeveral(t *testing.T) {
	n := ordinary()
	for _, q := range []api.Query{
		reach(4, 5, all()), reach(5, 4, all()), reach(5, 5, all()), reach(-1, -1, all()), reach(4, 4, rg(2, 1)),
		isolated(4, 5, all()), isolated(5, 4, all()), isolated(-1, 5, all()), isolated(4, 4, rg(2, 1)),
		waypoint(4, 4, 5, all()), waypoint(4, 5, 4, all()), waypoint(5, 4, 4, all()), waypoint(4, 4, -1, all()), waypoint(5, 5, 5, all()),
		{Kind: api.NoLoop, A: 1, B: 1, W: 1, R: all()}, {Kind: api.NoHole, A: 4, B: 4, R: all()}, {Kind: api.Same, A: 1, B: 2, W: 3, R: all(), Other: "x"},
		{Kind: api.Reach, A: 4, B: 4, W: 4, R: all()}, {Kind: api.Isolated, A: 4, B: 4, W: 4, R: all()}, {Kind: 6, A: 9, R: rg(2, 1), Other: "x"},
	} {
		wantWrong(t, "several", n, q)
	}
}

// Q1, P12.1: Other may be any text, of Same, and is empty of all other kinds.
func TestRightOther(t *testing.T) {
	n := ordinary()
	for _, k := range kinds() {
		q := plain(k)
		for _, q.Other = range []string{"x", "main", "\x00", " ", "eightbyt", "morethaneight", "\xff\xfe", "é", strings.Repeat("x", 100000)} {
			if k == api.Same {
				wantRight(t, "Other", n, q)
			} else {
				wantWrong(t, "Other does not count", n, q)
			}
		}
		q.Other = ""
		wantRight(t, "no Other", n, q)
	}
}

// Q1, P12.1: a query is right or not by the number of devices alone: not by links, rules or ports.
func TestRightOfAnyNetwork(t *testing.T) {
	for k := 1; k <= api.MaxDevices; k++ {
		for _, n := range []api.Network{line(k), ring(k), with(line(k)), net(top(nil, slices.Repeat([]int{1}, k)...))} {
			wantRight(t, "the last one", n, reach(k-1, k-1, all()))
			wantRight(t, "the last one", n, waypoint(k-1, k-1, k-1, all()))
			wantWrong(t, "behind the last one", n, reach(k, k-1, all()))
			wantWrong(t, "behind the last one", n, isolated(k-1, k, all()))
			wantWrong(t, "behind the last one", n, waypoint(k-1, k-1, k, all()))
		}
	}
}

// Q1, P12.1: the devices from which packets may break a right query, rising: A alone, or all.
func TestSources(t *testing.T) {
	for _, n := range append(rights(), with(ordinary())) {
		for _, k := range kinds() {
			q := plain(k)
			for q.A = range len(n.T.Ports) {
				var every []int
				for d := range n.T.Ports {
					every = append(every, d)
				}
				switch {
				case ofPair(k):
					every = []int{q.A}
				case q.A > 0:
					continue
				}
				if l := Sources(n, q); !slices.Equal(l, every) {
					t.Fatalf("%v: Sources(%+v): %v, not %v", n.T, q, l, every)
				}
			}
		}
	}
}

// Q1, P12.1: sources written out, of a network with one device, of an ordinary one, and of one with the most.
func TestSourcesOfSome(t *testing.T) {
	for _, x := range []struct {
		n    api.Network
		q    api.Query
		want []int
	}{
		{line(1), reach(0, 0, all()), []int{0}},
		{line(1), noLoop(all()), []int{0}},
		{line(1), noHole(rg(7, 7)), []int{0}},
		{line(1), isolated(0, 0, rg(last, last)), []int{0}},
		{line(1), waypoint(0, 0, 0, all()), []int{0}},
		{line(1), same(all()), []int{0}},
		{ordinary(), reach(3, 1, all()), []int{3}},
		{ordinary(), noLoop(rg(0, 0)), []int{0, 1, 2, 3, 4}},
		{ordinary(), noHole(all()), []int{0, 1, 2, 3, 4}},
		{ordinary(), isolated(1, 4, all()), []int{1}},
		{ordinary(), waypoint(4, 3, 2, all()), []int{4}},
		{ordinary(), api.Query{Kind: api.Same}, []int{0, 1, 2, 3, 4}},
		{most(), reach(7, 0, all()), []int{7}},
		{most(), noLoop(all()), []int{0, 1, 2, 3, 4, 5, 6, 7}},
		{most(), noHole(all()), []int{0, 1, 2, 3, 4, 5, 6, 7}},
		{most(), isolated(0, 7, all()), []int{0}},
		{most(), waypoint(6, 7, 5, all()), []int{6}},
		{most(), same(rg(9, 9)), []int{0, 1, 2, 3, 4, 5, 6, 7}},
	} {
		if l := Sources(x.n, x.q); !slices.Equal(l, x.want) {
			t.Errorf("%v: Sources(%+v): %v, not %v", x.n.T, x.q, l, x.want)
		}
	}
}
