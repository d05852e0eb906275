package atoms

import (
	"math"
	"slices"
	"testing"

	"waystone/api"
)

// empties are tables without ranges, come to in every way, a nil one and the zero value among them.
func empties(t *testing.T) map[string]*Table {
	t.Helper()
	one, two := rg(5, 9), rg(0, last)
	return map[string]*Table{
		"nil":     nil,
		"New":     New(),
		"zero":    {},
		"dropped": mustDrop(t, table(t, one), one),
		"both":    mustDrop(t, mustDrop(t, table(t, one, two), one), two),
		"twice":   mustDrop(t, mustDrop(t, table(t, one, one), one), one),
	}
}

// P5.1, P1: every call, of a nil table and of one without ranges: all addresses are one atom.
func TestEmpty(t *testing.T) {
	for name, x := range empties(t) {
		if r, is := x.Atom(0); x.Len() != 1 || r != rg(0, last) || !is || len(x.Ranges()) != 0 {
			t.Errorf("%s: %d atoms, %v, %v; %v", name, x.Len(), r, is, x.Ranges())
		}
		wantAll(t, name, x, nil)
		for _, a := range []uint32{0, 1, 5, 10, 1 << 31, last - 1, last} {
			if i := x.Of(a); i != 0 {
				t.Errorf("%s: Of(%d): %d", name, a, i)
			}
		}
		for _, r := range append(among(0, 1, 5, 9, last), rg(1, 0), rg(last, 0)) {
			wantRange(t, name, x, nil, model(nil).atoms(), r)
			wantRefused(t, name+": Drop", x, nil, x.Drop, r, api.ErrAtom)
			if r.From > r.To {
				wantRefused(t, name+": Add", x, nil, x.Add, r, api.ErrAtom)
				continue
			}
			wantAll(t, name+" and one", mustAdd(t, x, r), model{r})
			wantAll(t, name, x, nil)
		}
	}
}

// P5.1: the two ranges of the document's example, call by call.
func TestExample(t *testing.T) {
	x := table(t, rg(5, 9), rg(8, last))
	if got := atomsOf(x); !slices.Equal(got, []api.Range{rg(0, 4), rg(5, 7), rg(8, 9), rg(10, last)}) {
		t.Errorf("atoms: %v", got)
	}
	for a, want := range map[uint32]int{0: 0, 4: 0, 5: 1, 7: 1, 8: 2, 9: 2, 10: 3, 1 << 31: 3, last: 3} {
		if i := x.Of(a); i != want {
			t.Errorf("Of(%d): %d; want %d", a, i, want)
		}
	}
	if i, k, is := x.Within(rg(5, 9)); i != 1 || k != 3 || !is {
		t.Errorf("Within: %d, %d, %v", i, k, is)
	}
	if i, k, is := x.Within(rg(8, last)); i != 2 || k != 4 || !is {
		t.Errorf("Within: %d, %d, %v", i, k, is)
	}
	if i, k, is := x.Within(rg(5, 7)); i != 0 || k != 0 || is {
		t.Errorf("Within of one that it has not: %d, %d, %v", i, k, is)
	}
	if x.Count(rg(5, 9)) != 1 || x.Count(rg(8, 9)) != 0 || !slices.Equal(x.Ranges(), []api.Range{rg(5, 9), rg(8, last)}) {
		t.Errorf("Count: %d, %d; %v", x.Count(rg(5, 9)), x.Count(rg(8, 9)), x.Ranges())
	}
}

// P5.1: the atoms of each kind of range, and of each way in which two ranges lie, written out.
func TestAtomsWrittenOut(t *testing.T) {
	for _, c := range []struct {
		name      string
		l         []api.Range
		beginning []uint32
	}{
		{"one address", []api.Range{rg(7, 7)}, []uint32{0, 7, 8}},
		{"the first address", []api.Range{rg(0, 0)}, []uint32{0, 1}},
		{"the last address", []api.Range{rg(last, last)}, []uint32{0, last}},
		{"the last but one", []api.Range{rg(last-1, last-1)}, []uint32{0, last - 1, last}},
		{"from 0", []api.Range{rg(0, 6)}, []uint32{0, 7}},
		{"to the last", []api.Range{rg(6, last)}, []uint32{0, 6}},
		{"all", []api.Range{rg(0, last)}, []uint32{0}},
		{"all but the ends", []api.Range{rg(1, last-1)}, []uint32{0, 1, last}},
		{"apart", []api.Range{rg(2, 3), rg(6, 8)}, []uint32{0, 2, 4, 6, 9}},
		{"one between", []api.Range{rg(2, 3), rg(5, 8)}, []uint32{0, 2, 4, 5, 9}},
		{"touching", []api.Range{rg(2, 4), rg(5, 8)}, []uint32{0, 2, 5, 9}},
		{"one in common", []api.Range{rg(2, 5), rg(5, 8)}, []uint32{0, 2, 5, 6, 9}},
		{"overlapping", []api.Range{rg(2, 6), rg(4, 8)}, []uint32{0, 2, 4, 7, 9}},
		{"within", []api.Range{rg(2, 8), rg(4, 6)}, []uint32{0, 2, 4, 7, 9}},
		{"the same From", []api.Range{rg(2, 8), rg(2, 6)}, []uint32{0, 2, 7, 9}},
		{"the same To", []api.Range{rg(2, 8), rg(6, 8)}, []uint32{0, 2, 6, 9}},
		{"the same From, 0", []api.Range{rg(0, 8), rg(0, 6)}, []uint32{0, 7, 9}},
		{"the same To, the last", []api.Range{rg(2, last), rg(6, last)}, []uint32{0, 2, 6}},
		{"the same", []api.Range{rg(2, 8), rg(2, 8)}, []uint32{0, 2, 9}},
		{"touching, all", []api.Range{rg(0, 8), rg(9, last)}, []uint32{0, 9}},
		{"touching at the last", []api.Range{rg(4, last-1), rg(last, last)}, []uint32{0, 4, last}},
	} {
		orders(c.l, func(l []api.Range) {
			x := table(t, l...)
			if got := atomsOf(x); len(got) != len(c.beginning) || !slices.EqualFunc(got, c.beginning, func(r api.Range, from uint32) bool { return r.From == from }) {
				t.Errorf("%s: %v; want them from %v on", c.name, got, c.beginning)
			}
			wantAll(t, c.name, x, l)
			wantCut(t, c.name, x)
		})
	}
}

// P5.1: the same range added twice, dropped once, then once more, and a third time.
func TestTwice(t *testing.T) {
	for _, r := range append(among(0, 1, 7, last-1, last), rg(5, 9)) {
		one := table(t, r)
		two := mustAdd(t, one, r)
		if one.Count(r) != 1 || two.Count(r) != 2 || two.Len() != one.Len() || len(two.Ranges()) != 1 {
			t.Errorf("%v: %d, %d times; %v", r, one.Count(r), two.Count(r), two.Ranges())
		}
		once := mustDrop(t, two, r)
		wantAll(t, "dropped once", once, model{r})
		none := mustDrop(t, once, r)
		wantAll(t, "dropped twice", none, nil)
		wantRefused(t, "Drop", none, nil, none.Drop, r, api.ErrAtom)
		wantAll(t, "twice", two, model{r, r})
	}
}

// P5.1: ranges that share a boundary: it goes with the last of them alone.
func TestSharedBoundary(t *testing.T) {
	l := []api.Range{rg(2, 4), rg(5, 8), rg(5, 6), rg(3, 4), rg(5, last)}
	orders(l, func(l []api.Range) {
		x, m := table(t, l...), model(l)
		for _, r := range l {
			if !slices.ContainsFunc(atomsOf(x), func(a api.Range) bool { return a.From == 5 }) {
				t.Fatalf("%v: no atom from 5 on: %v", m, atomsOf(x))
			}
			x, m = mustDrop(t, x, r), m.without(r)
			wantAll(t, "dropped", x, m)
		}
	})
}

// P5.1: a range that is not right is neither added nor dropped, and never there.
func TestNotRight(t *testing.T) {
	wrong := []api.Range{rg(1, 0), rg(2, 1), rg(9, 5), rg(10, 9), rg(last, 0), rg(last, last-1), rg(1<<31, 1<<31-1)}
	for _, m := range []model{nil, {rg(5, 9)}, {rg(0, last)}, {rg(1, 2), rg(0, 1), rg(0, 0), rg(last-1, last), rg(9, 10)}} {
		x := table(t, m...)
		for _, r := range wrong {
			wantRefused(t, "Add", x, m, x.Add, r, api.ErrAtom)
			wantRefused(t, "Drop", x, m, x.Drop, r, api.ErrAtom)
			wantRange(t, "not right", x, m, m.atoms(), r)
		}
	}
}

// P5.1: a range dropped that the table has not, or has no more, though it is just some of its atoms.
func TestDropWhatIsNot(t *testing.T) {
	m := model{rg(5, 9), rg(8, last), rg(20, 30), rg(20, 30)}
	x := table(t, m...)
	for _, r := range among(0, 4, 5, 7, 8, 9, 10, 19, 20, 30, 31, last) {
		if m.count(r) > 0 {
			continue
		}
		wantRefused(t, "Drop", x, m, x.Drop, r, api.ErrAtom)
		had := mustDrop(t, mustAdd(t, x, r), r)
		wantRefused(t, "Drop again", had, m, had.Drop, r, api.ErrAtom)
		wantRange(t, "it has had", had, m, m.atoms(), r)
	}
}

// full are 500 ranges of each kind: one as often, as many boundaries as can be, ones that touch, ones within one another, and any.
func full() map[string]model {
	mix, all := mixer(5), map[string]model{}
	for i := range uint32(500) {
		all["one"] = append(all["one"], rg(1, 2))
		all["all"] = append(all["all"], rg(0, last))
		all["apart"] = append(all["apart"], rg(1+4*i, 2+4*i))
		all["touching"] = append(all["touching"], rg(i, i))
		all["at the end"] = append(all["at the end"], rg(last-2*i, last-i))
		all["within"] = append(all["within"], rg(1+i, last-1-i))
		all["any"] = append(all["any"], mix.wide())
		all["few"] = append(all["few"], rg(i%7, 7+i%11))
	}
	return all
}

// P5.1: 500 ranges, and one more of them; one that is not right is ErrAtom even then; what is dropped makes room.
func TestFull(t *testing.T) {
	for name, m := range full() {
		x := table(t, m[:499]...)
		wantAll(t, name+", but one", x, m[:499])
		x = mustAdd(t, x, m[499])
		wantAll(t, name, x, m)
		wantCut(t, name, x)
		for _, r := range []api.Range{m[0], m[499], rg(0, last), rg(3, 3), rg(77, 77777)} {
			wantRefused(t, name+": Add", x, m, x.Add, r, api.ErrFull)
		}
		for _, r := range []api.Range{rg(1, 0), rg(last, 0), rg(2, 1)} {
			wantRefused(t, name+": Add", x, m, x.Add, r, api.ErrAtom)
			wantRefused(t, name+": Drop", x, m, x.Drop, r, api.ErrAtom)
		}
		room := mustDrop(t, x, m[250])
		wantAll(t, name+", with room", room, m.without(m[250]))
		again := mustAdd(t, room, rg(77, 77777))
		wantAll(t, name+", full again", again, m.without(m[250]).with(rg(77, 77777)))
		if y, e := again.Add(m[250]); y != nil || e != api.ErrFull {
			t.Errorf("%s, full again: %v, %v", name, y, e)
		}
	}
}

// P5.1: as many atoms as there can be.
func TestMostAtoms(t *testing.T) {
	x := table(t, full()["apart"]...)
	first, a := x.Atom(0)
	final, b := x.Atom(1000)
	none, c := x.Atom(1001)
	if x.Len() != 1001 || first != rg(0, 0) || !a || final != rg(1999, last) || !b || none != rg(0, 0) || c {
		t.Errorf("%d atoms: %v, %v; %v, %v; %v, %v", x.Len(), first, a, final, b, none, c)
	}
	if x.Of(0) != 0 || x.Of(1) != 1 || x.Of(1998) != 999 || x.Of(1999) != 1000 || x.Of(last) != 1000 {
		t.Errorf("Of: %d, %d, %d, %d, %d", x.Of(0), x.Of(1), x.Of(1998), x.Of(1999), x.Of(last))
	}
}

// P5.1: Atom at 0, at the last one, one beyond it and below 0.
func TestAtomEnds(t *testing.T) {
	x := table(t, rg(5, 9), rg(20, last))
	for i, want := range map[int]api.Range{0: rg(0, 4), 3: rg(20, last)} {
		wantAtom(t, "at an end", x, i, want, true)
	}
	for _, i := range []int{math.MinInt, -1 << 32, -4, -1, 4, 5, 1 << 32, math.MaxInt} {
		wantAtom(t, "beyond", x, i, api.Range{}, false)
	}
}

// P5.1: Ranges by From, then by To, as numbers, each once, however they were added.
func TestRangesInOrder(t *testing.T) {
	sorted := []api.Range{rg(0, 0), rg(0, 9), rg(0, last), rg(1, 1), rg(2, 1<<31), rg(2, last), rg(10, 11), rg(256, 300), rg(1<<31, 1<<31), rg(1<<31, last), rg(last, last)}
	for seed := range 50 {
		mix := mixer(seed)
		x := table(t, append(mix.mixed(sorted), mix.mixed(sorted)...)...)
		if got := x.Ranges(); !slices.Equal(got, sorted) {
			t.Fatalf("%v; want %v", got, sorted)
		}
	}
}

// P5.1, P5.2: every row of up to three ranges, in every order, over addresses at both ends, with one of each dropped again.
func TestFewRanges(t *testing.T) {
	all := among(0, 1, 2, last-1, last)
	for _, a := range all {
		for _, b := range all {
			for _, c := range all {
				m := model{a, b, c}
				x := table(t, m...)
				wantAll(t, "three", x, m)
				wantCut(t, "three", x)
				for _, r := range all {
					wantRange(t, "three", x, m, m.atoms(), r)
				}
				for _, r := range m {
					wantAll(t, "two", mustDrop(t, x, r), m.without(r))
				}
			}
		}
	}
}

// wantAddresses asks, address by address, for P5.2: each address is in one atom, which Of tells, and each range has an atom whole or not at all.
func wantAddresses(t *testing.T, x *Table, from, to uint32) {
	t.Helper()
	for a := uint64(from); a <= uint64(to); a++ {
		in := 0
		for i := range x.Len() {
			if r, _ := x.Atom(i); uint64(r.From) <= a && a <= uint64(r.To) {
				in++
				if x.Of(uint32(a)) != i {
					t.Fatalf("Of(%d): %d; it is in atom %d", a, x.Of(uint32(a)), i)
				}
			}
		}
		if in != 1 {
			t.Fatalf("%d is in %d atoms", a, in)
		}
		for _, r := range x.Ranges() {
			i, k, is := x.Within(r)
			has, told := uint64(r.From) <= a && a <= uint64(r.To), i <= x.Of(uint32(a)) && x.Of(uint32(a)) < k
			if !is || has != told {
				t.Fatalf("%d: in %v: %v; in its atoms, from %d, below %d: %v, %v", a, r, has, i, k, told, is)
			}
		}
	}
}

// P5.2: address by address, near both ends.
func TestAddresses(t *testing.T) {
	for seed := range 60 {
		mix, x := mixer(seed), New()
		for range 1 + mix.below(8) {
			a, b := uint32(mix.below(20)), uint32(mix.below(20))
			switch mix.below(3) {
			case 0:
				a, b = last-a, last-b
			case 1:
				a = last - a
			}
			x = mustAdd(t, x, rg(min(a, b), max(a, b)))
		}
		wantAddresses(t, x, 0, 25)
		wantAddresses(t, x, last-25, last)
		wantCut(t, "near the ends", x)
	}
}
