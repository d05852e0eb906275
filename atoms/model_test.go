package atoms

import (
	"cmp"
	"math"
	"slices"
	"testing"

	"waystone/api"
)

const last = api.MaxAddr

// rg is a range.
func rg(from, to uint32) api.Range { return api.Range{From: from, To: to} }

// model is what a table should have: its ranges, each as often as it was added, in any order.
type model []api.Range

// with is the model with a range once more.
func (m model) with(r api.Range) model { return append(slices.Clone(m), r) }

// without is the model with a range that it has once less.
func (m model) without(r api.Range) model {
	i := slices.Index(m, r)
	return slices.Delete(slices.Clone(m), i, i+1)
}

// count is how often a range stands.
func (m model) count(r api.Range) int {
	n := 0
	for _, x := range m {
		if x == r {
			n++
		}
	}
	return n
}

// ranges are all, each once, by From, then by To.
func (m model) ranges() []api.Range {
	l := slices.Clone(m)
	slices.SortFunc(l, func(x, y api.Range) int { return cmp.Or(cmp.Compare(x.From, y.From), cmp.Compare(x.To, y.To)) })
	return slices.Compact(l)
}

// boundaries are those of the chapter's words, rising.
func (m model) boundaries() []uint32 {
	l := []uint32{0}
	for _, r := range m {
		l = append(l, r.From)
		if r.To != last {
			l = append(l, r.To+1)
		}
	}
	slices.Sort(l)
	return slices.Compact(l)
}

// atoms go from each boundary up to the next one.
func (m model) atoms() []api.Range {
	b := m.boundaries()
	l := make([]api.Range, len(b))
	for i, from := range b {
		l[i] = rg(from, last)
		if i+1 < len(b) {
			l[i].To = b[i+1] - 1
		}
	}
	return l
}

// atomsOf are all atoms of a table, as Atom tells them.
func atomsOf(x *Table) []api.Range {
	var l []api.Range
	for i := range x.Len() {
		r, _ := x.Atom(i)
		l = append(l, r)
	}
	return l
}

// wantAll asks every call that reads for what the model has.
func wantAll(t *testing.T, what string, x *Table, m model) {
	t.Helper()
	atoms := m.atoms()
	if x.Len() != len(atoms) {
		t.Fatalf("%s: Len %d; want %d, of %v", what, x.Len(), len(atoms), m)
	}
	for i, want := range atoms {
		wantAtom(t, what, x, i, want, true)
		wantOf(t, what, x, i, want)
	}
	for _, i := range []int{math.MinInt, -len(atoms), -2, -1, len(atoms), len(atoms) + 1, 1 << 32, math.MaxInt} {
		wantAtom(t, what, x, i, api.Range{}, false)
	}
	if got := x.Ranges(); !slices.Equal(got, m.ranges()) {
		t.Fatalf("%s: Ranges: %v; want %v", what, got, m.ranges())
	}
	for _, r := range m.ranges() {
		wantRange(t, what, x, m, atoms, r)
		for _, near := range []api.Range{rg(r.From, r.To+1), rg(r.From-1, r.To), rg(r.From+1, r.To), rg(r.From, r.To-1), rg(r.To, r.From)} {
			wantRange(t, what, x, m, atoms, near)
		}
	}
}

// wantAtom asks Atom.
func wantAtom(t *testing.T, what string, x *Table, i int, want api.Range, has bool) {
	t.Helper()
	if r, is := x.Atom(i); r != want || is != has {
		t.Fatalf("%s: Atom(%d): %v, %v; want %v, %v", what, i, r, is, want, has)
	}
}

// wantOf asks Of at each end of an atom, and between.
func wantOf(t *testing.T, what string, x *Table, i int, atom api.Range) {
	t.Helper()
	for _, a := range []uint32{atom.From, atom.From + (atom.To-atom.From)/2, atom.To} {
		if got := x.Of(a); got != i {
			t.Fatalf("%s: Of(%d): %d; want %d", what, a, got, i)
		}
	}
}

// wantRange asks Count and Within of a range, whether the table has it or not.
func wantRange(t *testing.T, what string, x *Table, m model, atoms []api.Range, r api.Range) {
	t.Helper()
	n := m.count(r)
	if got := x.Count(r); got != n {
		t.Fatalf("%s: Count(%v): %d; want %d", what, r, got, n)
	}
	from, to := 0, 0
	if n > 0 {
		from = slices.IndexFunc(atoms, func(a api.Range) bool { return a.From == r.From })
		to = slices.IndexFunc(atoms, func(a api.Range) bool { return a.To == r.To }) + 1
	}
	if i, k, is := x.Within(r); i != from || k != to || is != (n > 0) {
		t.Fatalf("%s: Within(%v): %d, %d, %v; want %d, %d, %v", what, r, i, k, is, from, to, n > 0)
	}
}

// wantCut asks for P5.2 itself, of a table alone: atoms that are all addresses, each once, and ranges that are some of them.
func wantCut(t *testing.T, what string, x *Table) {
	t.Helper()
	next := uint64(0)
	for i, r := range atomsOf(x) {
		if uint64(r.From) != next || r.From > r.To {
			t.Fatalf("%s: atom %d is %v, behind %d", what, i, r, next)
		}
		next = uint64(r.To) + 1
	}
	if next != last+1 {
		t.Fatalf("%s: the atoms end ahead of %d", what, next)
	}
	for _, r := range x.Ranges() {
		i, k, is := x.Within(r)
		first, a := x.Atom(i)
		final, b := x.Atom(k - 1)
		if !is || !a || !b || i >= k || first.From != r.From || final.To != r.To {
			t.Fatalf("%s: %v has atoms %d to %d: %v to %v", what, r, i, k, first, final)
		}
	}
}

// table is one with ranges added in this order.
func table(t *testing.T, l ...api.Range) *Table {
	t.Helper()
	x := New()
	for _, r := range l {
		x = mustAdd(t, x, r)
	}
	return x
}

// mustAdd is a table with a range more, which is right, and for which there is room.
func mustAdd(t *testing.T, x *Table, r api.Range) *Table {
	t.Helper()
	y, e := x.Add(r)
	if e != api.OK || y == nil {
		t.Fatalf("Add(%v): %v, %v", r, y, e)
	}
	return y
}

// mustDrop is a table with a range that it has once less.
func mustDrop(t *testing.T, x *Table, r api.Range) *Table {
	t.Helper()
	y, e := x.Drop(r)
	if e != api.OK || y == nil {
		t.Fatalf("Drop(%v): %v, %v", r, y, e)
	}
	return y
}

// wantRefused asks for an error, beside which there is no table, and for a table that stays.
func wantRefused(t *testing.T, what string, x *Table, m model, do func(api.Range) (*Table, api.Errno), r api.Range, want api.Errno) {
	t.Helper()
	if y, e := do(r); y != nil || e != want {
		t.Fatalf("%s of %v: %v, %v; want %v", what, r, y, e, want)
	}
	wantAll(t, what+", refused", x, m)
}

// among are all right ranges whose ends are among these addresses, which rise.
func among(l ...uint32) []api.Range {
	var out []api.Range
	for i, from := range l {
		for _, to := range l[i:] {
			out = append(out, rg(from, to))
		}
	}
	return out
}

// orders calls do with every order of the ranges.
func orders(l []api.Range, do func([]api.Range)) {
	l = slices.Clone(l)
	var from func(n int)
	from = func(n int) {
		if n == len(l) {
			do(l)
			return
		}
		for i := n; i < len(l); i++ {
			l[n], l[i] = l[i], l[n]
			from(n + 1)
			l[n], l[i] = l[i], l[n]
		}
	}
	from(0)
}

// mixer is numbers that look mixed, the same ones each time.
type mixer uint64

// next is the next number.
func (m *mixer) next() uint64 {
	*m = *m*6364136223846793005 + 1442695040888963407
	x := uint64(*m)
	return (x ^ x>>29) * 0x9E3779B97F4A7C15 >> 11
}

// below is the next number below n.
func (m *mixer) below(n int) int { return int(m.next() % uint64(n)) }

// wide is a range whose ends may be any addresses.
func (m *mixer) wide() api.Range {
	a, b := uint32(m.next()), uint32(m.next())
	return rg(min(a, b), max(a, b))
}

// mixed are ranges in another order.
func (m *mixer) mixed(l []api.Range) []api.Range {
	l = slices.Clone(l)
	for i := range l {
		j := i + m.below(len(l)-i)
		l[i], l[j] = l[j], l[i]
	}
	return l
}
