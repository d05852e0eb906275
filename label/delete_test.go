package label

import (
	"math"
	"testing"

	"waystone/api"
)

// P10.1, L2: each rule of a network, the first, a middle one, the last one, and the only one.
func TestDelete(t *testing.T) {
	for _, n := range rights() {
		l := mustOf(t, n)
		for _, r := range n.Rules {
			wantLabels(t, "deleted", mustDelete(t, l, r.ID), less(n, r.ID))
		}
		wantLabels(t, "at hand", l, n)
	}
	only := net(top(nil, 2), no(api.Deny, 0, rg(3, 9), 5))
	l := mustDelete(t, mustOf(t, only), 10)
	wantLabels(t, "the only one", l, with(only, nil))
	wantNone(t, l, with(only, nil), 10)
}

// P10.1, L2: ErrNone, of an ID that there is not: beside those that there are, ahead of and behind all, none that a rule may have, and a rule's place.
func TestDeleteNone(t *testing.T) {
	for _, n := range []api.Network{net(top(nil, 1)), net(top(nil, 1), by(0, 0, all(), 5)), ordinary(), most()} {
		l := mustOf(t, n)
		for _, i := range []int{math.MinInt, math.MinInt + 1, -1 << 32, -10, -1, 0, 1, 2, 9, 11, 15, 65, 129, 131, 399, 401, 1000, api.MaxID, api.MaxID + 1, 1<<32 + 10, math.MaxInt} {
			wantNone(t, l, n, i)
		}
		for _, r := range n.Rules {
			wantNone(t, mustDelete(t, l, r.ID), less(n, r.ID), r.ID)
		}
	}
}

// P10.1, L2: a boundary goes with the last of the rules that have it alone, written out.
func TestDeleteSharedBoundary(t *testing.T) {
	n := net(top(nil, 4, 1), by(0, 0, rg(3, 9), 5), by(0, 1, rg(3, 9), 5), no(api.Drop, 1, rg(3, 20), 5), by(0, 2, rg(10, last), 5))
	for _, c := range []struct {
		ids  []int
		want []api.Range
		told []int
	}{
		{[]int{10}, []api.Range{rg(0, 2), rg(3, 9), rg(10, 20), rg(21, last)}, []int{-1, 1, 2, 2}},
		{[]int{20}, []api.Range{rg(0, 2), rg(3, 9), rg(10, 20), rg(21, last)}, []int{-1, 0, 2, 2}},
		{[]int{10, 20}, []api.Range{rg(0, 2), rg(3, 9), rg(10, 20), rg(21, last)}, []int{-1, -1, 2, 2}},
		{[]int{30}, []api.Range{rg(0, 2), rg(3, 9), rg(10, last)}, []int{-1, 0, 2}},
		{[]int{40}, []api.Range{rg(0, 2), rg(3, 9), rg(10, 20), rg(21, last)}, []int{-1, 0, -1, -1}},
		{[]int{40, 30}, []api.Range{rg(0, 2), rg(3, 9), rg(10, last)}, []int{-1, 0, -1}},
		{[]int{20, 10, 30}, []api.Range{rg(0, 9), rg(10, last)}, []int{-1, 2}},
		{[]int{10, 20, 40}, []api.Range{rg(0, 2), rg(3, 20), rg(21, last)}, []int{-1, -1, -1}},
		{[]int{10, 30, 40, 20}, []api.Range{all()}, []int{-1}},
	} {
		l, now := mustOf(t, n), n
		for _, i := range c.ids {
			l, now = mustDelete(t, l, i), less(now, i)
			wantLabels(t, "deleted", l, now)
		}
		if l.Atoms() != len(c.want) {
			t.Fatalf("%v: %d atoms", c.ids, l.Atoms())
		}
		for i, atom := range c.want {
			wantAtom(t, "deleted", l, i, atom, true)
			wantAt(t, "deleted", l, 0, i, c.told[i], true)
		}
	}
}

// P10.1, L2: what the deleted rule took goes as the rules behind it bid.
func TestDeleteTakes(t *testing.T) {
	n := net(top(nil, 4), by(0, 3, all(), 5), by(0, 2, all(), 6), no(api.Drop, 0, all(), 7), no(api.Permit, 0, all(), 5), no(api.Deny, 0, all(), 6), no(api.Deny, 0, all(), 6), no(api.Permit, 0, all(), 7))
	l := mustOf(t, n)
	wantAt(t, "at first", l, 0, 0, -2, true)
	for _, c := range []struct{ id, want int }{{70, -3}, {50, -3}, {60, -2}, {30, 2}, {20, 3}, {40, 3}, {10, -1}} {
		l, n = mustDelete(t, l, c.id), less(n, c.id)
		wantLabels(t, "deleted", l, n)
		wantAt(t, "deleted", l, 0, 0, c.want, true)
	}
}

// P10.1, P10.3: all rules of a network one by one, in drawn orders.
func TestDeleteAll(t *testing.T) {
	for seed, n := range rights() {
		mix := mixer(seed)
		for range 2 {
			l, now := mustOf(t, n), n
			for _, r := range mix.mixed(n.Rules) {
				l, now = mustDelete(t, l, r.ID), less(now, r.ID)
				wantLabels(t, "deleted", l, now)
			}
			wantLabels(t, "none is left", l, with(n, nil))
		}
	}
}
