package atoms

import (
	"slices"
	"testing"

	"waystone/api"
)

// wantSame asks two tables for the same atoms, ranges and counts.
func wantSame(t *testing.T, what string, x, y *Table) {
	t.Helper()
	if !slices.Equal(atomsOf(x), atomsOf(y)) || !slices.Equal(x.Ranges(), y.Ranges()) {
		t.Fatalf("%s: %v, %v; want %v, %v", what, atomsOf(x), x.Ranges(), atomsOf(y), y.Ranges())
	}
	for _, r := range y.Ranges() {
		if x.Count(r) != y.Count(r) {
			t.Fatalf("%s: %v %d times; want %d", what, r, x.Count(r), y.Count(r))
		}
	}
}

// P5.1: ranges added in any order make the same atoms, and have the same answers.
func TestAnyOrder(t *testing.T) {
	for _, l := range [][]api.Range{
		{rg(5, 9), rg(8, last), rg(0, 4), rg(10, 10), rg(5, 9)},
		{rg(2, 4), rg(5, 8), rg(0, last), rg(2, 8), rg(4, 5), rg(last, last)},
	} {
		first := table(t, l...)
		orders(l, func(l []api.Range) {
			x := table(t, l...)
			wantSame(t, "in another order", x, first)
			wantAll(t, "in another order", x, l)
		})
	}
	for name, l := range full() {
		first, mix := table(t, l...), mixer(3)
		for range 5 {
			wantSame(t, name, table(t, mix.mixed(l)...), first)
		}
	}
}

// moves calls do with what comes of every row of adds of these ranges and drops of them, each drop somewhere behind its add.
func moves(t *testing.T, x *Table, added []api.Range, there model, do func(*Table)) {
	t.Helper()
	if len(added) == 0 && len(there) == 0 {
		do(x)
		return
	}
	for i, r := range added {
		rest := slices.Delete(slices.Clone(added), i, i+1)
		moves(t, mustAdd(t, x, r), rest, there.with(r), do)
	}
	for _, r := range there {
		moves(t, mustDrop(t, x, r), added, there.without(r), do)
	}
}

// P5.3: every row of adds and drops of three ranges, on tables of several kinds, leaves them as they were.
func TestForgottenInEveryOrder(t *testing.T) {
	for _, m := range []model{nil, {rg(5, 9)}, {rg(5, 9), rg(8, last), rg(0, 3)}} {
		x := table(t, m...)
		for _, l := range [][]api.Range{
			{rg(5, 9), rg(8, last), rg(5, 9)},
			{rg(0, last), rg(0, 4), rg(10, last)},
			{rg(7, 7), rg(6, 8), rg(8, 9)},
			{rg(0, 0), rg(1, last-1), rg(last, last)},
		} {
			moves(t, x, l, nil, func(y *Table) {
				wantSame(t, "forgotten", y, x)
				wantAll(t, "forgotten", y, m)
			})
		}
		wantAll(t, "as it was", x, m)
	}
}

// P5.3: many ranges that come and go, far more in all than a table may have at a time, leave it as it was.
func TestForgottenMany(t *testing.T) {
	for seed := range 6 {
		mix := mixer(seed)
		m := full()["any"][:mix.below(100)]
		x := table(t, m...)
		y, there := x, model(nil)
		for range 3000 {
			if len(there) > 0 && (mix.below(2) == 0 || len(m)+len(there) == 500) {
				r := there[mix.below(len(there))]
				y, there = mustDrop(t, y, r), there.without(r)
				continue
			}
			r := rg(uint32(mix.below(30)), 30+uint32(mix.below(30)))
			if mix.below(3) == 0 {
				r = mix.wide()
			}
			y, there = mustAdd(t, y, r), there.with(r)
		}
		wantAll(t, "in between", y, append(slices.Clone(m), there...))
		for _, r := range mix.mixed(there) {
			y = mustDrop(t, y, r)
		}
		wantSame(t, "forgotten", y, x)
		wantAll(t, "forgotten", y, m)
	}
}

// P5.3: a full table emptied, in other orders, and filled anew: nothing is left of what it had, its room neither.
func TestForgottenWhole(t *testing.T) {
	for name, m := range full() {
		mix := mixer(9)
		for range 3 {
			x := table(t, m...)
			for _, r := range mix.mixed(m) {
				x = mustDrop(t, x, r)
			}
			wantSame(t, name+", emptied", x, New())
			wantAll(t, name+", emptied", x, nil)
			for _, r := range mix.mixed(m) {
				x = mustAdd(t, x, r)
			}
			wantAll(t, name+", filled anew", x, m)
		}
	}
}

// refusesMore is the error of a range's adding.
func (m model) refusesMore(r api.Range) api.Errno {
	switch {
	case r.From > r.To:
		return api.ErrAtom
	case len(m) == 500:
		return api.ErrFull
	}
	return api.OK
}

// refusesLess is the error of a range's dropping.
func (m model) refusesLess(r api.Range) api.Errno {
	if m.count(r) == 0 {
		return api.ErrAtom
	}
	return api.OK
}

// P5.1 to P5.3: any adds and drops at all, two bytes each beside the one that tells which, step by step.
func FuzzTable(f *testing.F) {
	f.Add([]byte{0, 5, 9, 1, 8, 0, 0, 5, 9, 4, 5, 9, 4, 5, 9, 4, 5, 9})
	f.Add([]byte{0, 9, 5, 2, 3, 3, 3, 0, 255, 7, 0, 255, 6, 3, 3, 5, 1, 1})
	f.Add([]byte{3, 0, 0, 3, 1, 0, 3, 0, 1, 7, 0, 0, 7, 1, 0, 7, 0, 1})
	f.Fuzz(func(t *testing.T, l []byte) {
		x, m := New(), model(nil)
		for ; len(l) >= 3; l = l[3:] {
			r := rg(uint32(l[1]), uint32(l[2]))
			if l[0]&1 > 0 {
				r.To = last - r.To
			}
			if l[0]&2 > 0 {
				r.From = last - r.From
			}
			do, then, expected := x.Add, model.with, m.refusesMore(r)
			if l[0]&4 > 0 {
				do, then, expected = x.Drop, model.without, m.refusesLess(r)
			}
			y, e := do(r)
			if e != expected || (y != nil) != (e == api.OK) {
				t.Fatalf("%d, %v: %v, %v; want %v", l[0], r, y, e, expected)
			}
			wantAll(t, "ahead", x, m)
			if e == api.OK {
				x, m = y, then(m, r)
				wantAll(t, "behind", x, m)
				wantCut(t, "behind", x)
			}
		}
	})
}
