package label

import (
	"math"
	"slices"
	"testing"

	"waystone/api"
)

// P10.1, L2: a rule whose ID is ahead of all, in the midst, and behind all, stands where its ID bids.
func TestInsert(t *testing.T) {
	for _, n := range []api.Network{net(top(nil, 4)), net(top(nil, 4), by(0, 1, rg(3, 9), 5)), ordinary()} {
		l := mustOf(t, n)
		for _, i := range []int{1, 9, 11, 35, 65, 129, 131, 1000, api.MaxID - 1, api.MaxID} {
			for _, r := range []api.Rule{by(0, 1, rg(40, 104), 9), no(api.Drop, 0, rg(0, 0), 0), no(api.Permit, 0, all(), 6), no(api.Deny, 0, rg(212, last), api.MaxPrio)} {
				wantLabels(t, "inserted", mustInsert(t, l, id(i, r)), more(n, id(i, r)))
				wantLabels(t, "at hand", l, n)
			}
		}
	}
}

// P10.1, L2: one that parts an atom, or two, or none, written out.
func TestInsertParts(t *testing.T) {
	n := net(top(nil, 2, 1), by(0, 1, rg(10, 19), 5))
	for _, c := range []struct {
		name string
		r    api.Range
		want []api.Range
		told []int
	}{
		{"none: all", all(), []api.Range{rg(0, 9), rg(10, 19), rg(20, last)}, []int{0, 1, 0}},
		{"none: the same", rg(10, 19), []api.Range{rg(0, 9), rg(10, 19), rg(20, last)}, []int{-1, 1, -1}},
		{"none: beside, behind", rg(20, last), []api.Range{rg(0, 9), rg(10, 19), rg(20, last)}, []int{-1, 1, 0}},
		{"none: beside, ahead", rg(0, 9), []api.Range{rg(0, 9), rg(10, 19), rg(20, last)}, []int{0, 1, -1}},
		{"none: some atoms", rg(0, 19), []api.Range{rg(0, 9), rg(10, 19), rg(20, last)}, []int{0, 1, -1}},
		{"one", rg(15, 19), []api.Range{rg(0, 9), rg(10, 14), rg(15, 19), rg(20, last)}, []int{-1, 1, 1, -1}},
		{"one, by its first address", rg(10, 10), []api.Range{rg(0, 9), rg(10, 10), rg(11, 19), rg(20, last)}, []int{-1, 1, 1, -1}},
		{"one, by the first of all", rg(0, 0), []api.Range{rg(0, 0), rg(1, 9), rg(10, 19), rg(20, last)}, []int{0, -1, 1, -1}},
		{"one, by the last of all", rg(last, last), []api.Range{rg(0, 9), rg(10, 19), rg(20, last-1), rg(last, last)}, []int{-1, 1, -1, 0}},
		{"one, twice", rg(12, 14), []api.Range{rg(0, 9), rg(10, 11), rg(12, 14), rg(15, 19), rg(20, last)}, []int{-1, 1, 1, 1, -1}},
		{"two", rg(5, 14), []api.Range{rg(0, 4), rg(5, 9), rg(10, 14), rg(15, 19), rg(20, last)}, []int{-1, 0, 1, 1, -1}},
		{"two, with one between", rg(5, 24), []api.Range{rg(0, 4), rg(5, 9), rg(10, 19), rg(20, 24), rg(25, last)}, []int{-1, 0, 1, 0, -1}},
	} {
		r := id(20, by(0, 0, c.r, 5)) // behind the one that is there
		l := mustInsert(t, mustOf(t, n), r)
		wantLabels(t, c.name, l, more(n, r))
		if l.Atoms() != len(c.want) {
			t.Fatalf("%s: %d atoms", c.name, l.Atoms())
		}
		for i, atom := range c.want {
			wantAtom(t, c.name, l, i, atom, true)
			wantAt(t, c.name, l, 0, i, c.told[i], true)
			wantAt(t, c.name, l, 1, i, -1, true)
		}
	}
}

// P10.1, L2: one that takes what another rule takes: it counts where it is ahead of that, by its Prio, then by its ID.
func TestInsertTakes(t *testing.T) {
	n := net(top(nil, 4, 4), by(0, 1, rg(3, 9), 5), no(api.Permit, 0, rg(3, 9), 5), by(1, 2, rg(3, 9), 5))
	for _, c := range []struct {
		r    api.Rule
		want int
	}{
		{id(5, by(0, 3, rg(3, 9), 5)), 3}, {id(15, by(0, 3, rg(3, 9), 5)), 1}, {id(15, by(0, 3, rg(3, 9), 6)), 3}, {id(5, by(0, 3, rg(3, 9), 4)), 1},
		{id(5, no(api.Drop, 0, rg(3, 9), 5)), -2}, {id(15, no(api.Drop, 0, rg(3, 9), 5)), 1}, {id(15, no(api.Drop, 0, rg(3, 9), 6)), -2},
		{id(15, no(api.Deny, 0, rg(3, 9), 5)), -3}, {id(25, no(api.Deny, 0, rg(3, 9), 5)), 1}, {id(25, no(api.Deny, 0, rg(3, 9), 6)), -3},
		{id(5, by(1, 0, rg(3, 9), 9)), 1}, {id(5, no(api.Deny, 1, rg(3, 9), 9)), 1}, {id(5, by(0, 3, rg(10, last), 9)), 1},
	} {
		l := mustInsert(t, mustOf(t, n), c.r)
		wantLabels(t, "takes", l, more(n, c.r))
		wantAt(t, "takes", l, 0, 1, c.want, true)
	}
}

// P10.1, L2: of a rule whose ID is there, ErrTwice: of the same, of another one, of one that is not right or does not fit, and of one too many.
func TestInsertTwice(t *testing.T) {
	for _, n := range []api.Network{net(top(nil, 1), by(0, 0, all(), 5)), ordinary(), most()} {
		l := mustOf(t, n)
		for _, r := range n.Rules {
			wantRefused(t, l, n, r, api.ErrTwice)
			wantRefused(t, l, n, api.Rule{ID: r.ID}, api.ErrTwice)
			wantRefused(t, l, n, id(r.ID, no(api.Drop, 0, rg(77, 78), 3)), api.ErrTwice)
			for _, x := range append(wrongOnes(r), unfitting(n.T)...) {
				wantRefused(t, l, n, id(r.ID, x), api.ErrTwice)
			}
		}
	}
}

// P10.1, L2: of a rule that is not right, in each of its fields, ErrRule.
func TestInsertWrong(t *testing.T) {
	for _, n := range []api.Network{net(top(nil, 4, 4, 4, 4, 4)), ordinary()} {
		l := mustOf(t, n)
		for _, r := range ordinary().Rules {
			for _, i := range []int{1, 65, 135} {
				for _, x := range wrongOnes(id(i, r)) {
					wantRefused(t, l, n, x, api.ErrRule)
				}
			}
		}
		for _, i := range []int{math.MinInt, -1 << 32, -10, -1, 0, api.MaxID + 1, 1<<32 + 1, math.MaxInt} {
			wantRefused(t, l, n, id(i, by(0, 0, all(), 5)), api.ErrRule)
		}
	}
}

// P10.1, L2: of a right rule of a device, or by a port, that there is not, ErrRule.
func TestInsertUnfitting(t *testing.T) {
	for _, n := range []api.Network{net(top(nil, 1)), ordinary()} {
		l := mustOf(t, n)
		for _, x := range unfitting(n.T) {
			wantRefused(t, l, n, id(5, x), api.ErrRule)
			wantRefused(t, l, n, id(1000, x), api.ErrRule)
		}
		for d, many := range n.T.Ports {
			wantLabels(t, "the last port", mustInsert(t, l, id(5, by(d, many-1, rg(3, 9), 5))), more(n, id(5, by(d, many-1, rg(3, 9), 5))))
		}
	}
}

// P10.1, L2: the last rule for which there is room, and one too many, wherever its ID is; what is deleted makes room.
func TestInsertTooMany(t *testing.T) {
	n := most()
	for _, r := range []api.Rule{n.Rules[0], n.Rules[17], n.Rules[api.MaxRules-1]} {
		room := less(n, r.ID)
		l := mustInsert(t, mustOf(t, room), r)
		wantLabels(t, "the last one", l, n)
		for _, i := range []int{1, 9, 173, 401, api.MaxID} {
			wantRefused(t, l, n, id(i, r), api.ErrRule)
			again := mustInsert(t, mustDelete(t, l, r.ID), id(i, r))
			wantLabels(t, "room again", again, more(room, id(i, r)))
		}
	}
}

// P10.1, L2: an ID that was refused, or that was deleted, is not there.
func TestInsertRefusedAhead(t *testing.T) {
	n := ordinary()
	l := mustOf(t, n)
	r := id(35, by(4, 0, rg(7, 8), 5))
	wrong := r
	wrong.Port = 1
	wantRefused(t, l, n, wrong, api.ErrRule)
	l, n = mustInsert(t, l, r), more(n, r)
	wantLabels(t, "inserted", l, n)
	wantRefused(t, l, n, r, api.ErrTwice)
	wantRefused(t, l, n, wrong, api.ErrTwice)
	l, n = mustDelete(t, l, 35), less(n, 35)
	wantRefused(t, l, n, wrong, api.ErrRule)
	wantLabels(t, "inserted again", mustInsert(t, l, r), more(n, r))
}

// P10.1, P10.3: all rules of a network one by one, from the first on, from the last on, and in a drawn order.
func TestInsertAll(t *testing.T) {
	for seed, n := range rights() {
		mix := mixer(seed)
		back := slices.Clone(n.Rules)
		slices.Reverse(back)
		for _, order := range [][]api.Rule{n.Rules, back, mix.mixed(n.Rules)} {
			now := with(n, nil)
			l := mustOf(t, now)
			for _, r := range order {
				l, now = mustInsert(t, l, r), more(now, r)
				wantLabels(t, "inserted", l, now)
			}
			wantLabels(t, "all", l, n)
		}
	}
}
