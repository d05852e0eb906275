package zone

import (
	"iter"
	"math/bits"
	"slices"
	"testing"

	"waystone/api"
)

const last = api.MaxAddr

// cells are ranges, each of which begins where the one ahead of it ends: a zone is held against a mask, bit by bit a cell.
type cells []api.Range

// row is n cells of one address each, from the first on.
func row(first uint32, n int) cells {
	var c cells
	for i := range uint32(n) {
		c = append(c, api.Range{From: first + i, To: first + i})
	}
	return c
}

// worlds are cells at the beginning, in the middle and at the end of all addresses, and such as are all addresses.
func worlds() []cells {
	return []cells{
		row(0, 7),
		row(1<<31-3, 7),
		row(last-6, 7),
		{{From: 0, To: 0}, {From: 1, To: 9}, {From: 10, To: 10}, {From: 11, To: 1<<31 - 1}, {From: 1 << 31, To: last - 5}, {From: last - 4, To: last - 1}, {From: last, To: last}},
	}
}

// zone is the zone of the cells of a mask, written down in new memory.
func (c cells) zone(mask int) []api.Range {
	var z []api.Range
	for i, r := range c {
		switch {
		case mask>>i&1 == 0:
		case i > 0 && mask>>(i-1)&1 == 1:
			z[len(z)-1].To = r.To
		default:
			z = append(z, r)
		}
	}
	return z
}

// count is how many addresses the cells of a mask have.
func (c cells) count(mask int) uint64 {
	n := uint64(0)
	for i, r := range c {
		if mask>>i&1 == 1 {
			n += uint64(r.To-r.From) + 1
		}
	}
	return n
}

// masks is how many there are.
func (c cells) masks() int { return 1 << len(c) }

// want asks for a zone, in just the ranges that it has.
func want(t *testing.T, what string, got, want []api.Range) {
	t.Helper()
	if !slices.Equal(got, want) {
		t.Fatalf("%s: %v; want %v", what, got, want)
	}
	if !Right(got) {
		t.Fatalf("%s: %v is not right", what, got)
	}
}

// wantOf asks for the zone of a list.
func wantOf(t *testing.T, l, z []api.Range) {
	t.Helper()
	got, e := Of(l)
	if e != api.OK {
		t.Fatalf("Of(%v): %v", l, e)
	}
	want(t, "Of", got, z)
}

// rangesAt are all ranges, right and not, whose ends are among n addresses from the first on.
func rangesAt(first uint32, n int) []api.Range {
	var l []api.Range
	for a := range uint32(n) {
		for b := range uint32(n) {
			l = append(l, api.Range{From: first + a, To: first + b})
		}
	}
	return l
}

// lists yields all lists of up to three of the ranges, in every order.
func lists(from []api.Range) iter.Seq[[]api.Range] {
	return func(yield func([]api.Range) bool) {
		if !yield(nil) {
			return
		}
		for _, a := range from {
			if !yield([]api.Range{a}) {
				return
			}
			for _, b := range from {
				if !yield([]api.Range{a, b}) {
					return
				}
				for _, c := range from {
					if !yield([]api.Range{a, b, c}) {
						return
					}
				}
			}
		}
	}
}

// P3.1 (Z1): Right, of every list of few ranges, at the beginning, in the middle and at the end.
func TestRightSmall(t *testing.T) {
	for _, first := range []uint32{0, 1<<31 - 2, last - 4} {
		for z := range lists(rangesAt(first, 5)) {
			right := true
			for i, r := range z {
				right = right && r.From <= r.To && (i == 0 || int64(r.From)-int64(z[i-1].To) > 1)
			}
			if Right(z) != right {
				t.Fatalf("Right(%v): %v", z, !right)
			}
		}
	}
}

// P3.1 (Z1): Right, at the edges, where an address behind the last one would be 0 or 1.
func TestRightEdges(t *testing.T) {
	for _, z := range [][]api.Range{
		nil, {}, {{From: 0, To: 0}}, {{From: last, To: last}}, {{From: 0, To: last}}, {{From: 5, To: 5}},
		{{From: 0, To: 0}, {From: 2, To: 2}}, {{From: 0, To: last - 2}, {From: last, To: last}}, {{From: 0, To: 0}, {From: last, To: last}},
	} {
		if !Right(z) {
			t.Errorf("%v is right", z)
		}
	}
	for _, z := range [][]api.Range{
		{{From: 1, To: 0}}, {{From: last, To: 0}}, {{From: last, To: last - 1}},
		{{From: 0, To: 0}, {From: 1, To: 1}}, {{From: 3, To: 5}, {From: 6, To: 6}}, {{From: 0, To: last - 1}, {From: last, To: last}},
		{{From: 3, To: 5}, {From: 3, To: 5}}, {{From: 3, To: 9}, {From: 5, To: 6}}, {{From: 3, To: 9}, {From: 9, To: 12}},
		{{From: 7, To: 9}, {From: 3, To: 5}}, {{From: last, To: last}, {From: 0, To: 0}},
		{{From: 0, To: last}, {From: 0, To: 0}}, {{From: 0, To: last}, {From: 1, To: 1}}, {{From: 0, To: last}, {From: 2, To: 2}}, {{From: 0, To: last - 1}, {From: 1, To: 1}},
		{{From: 1, To: 2}, {From: 9, To: 8}}, {{From: 2, To: 1}, {From: 8, To: 9}},
	} {
		if Right(z) {
			t.Errorf("%v is not right", z)
		}
	}
}

// P3.1 (Z1): Of, of every list of few ranges, in every order: just the addresses of its ranges, or ErrZone, and nothing.
func TestOfSmall(t *testing.T) {
	for _, first := range []uint32{0, 1<<31 - 3, last - 5} {
		c := row(first, 6)
		for l := range lists(rangesAt(first, 6)) {
			mask, wrong := 0, false
			for _, r := range l {
				wrong = wrong || r.From > r.To
				for i, a := range c {
					if r.From <= a.From && a.To <= r.To {
						mask |= 1 << i
					}
				}
			}
			if !wrong {
				wantOf(t, l, c.zone(mask))
			} else if z, e := Of(l); e != api.ErrZone || len(z) != 0 {
				t.Fatalf("Of(%v): %v, %v", l, z, e)
			}
		}
	}
}

// P3.1 (Z1): Of, of no range, of such as touch, lie one within the other, or are the same, and at the ends of all addresses.
func TestOfEdges(t *testing.T) {
	wantOf(t, nil, nil)
	wantOf(t, []api.Range{}, nil)
	wantOf(t, []api.Range{{From: 3, To: 5}, {From: 6, To: 6}, {From: 9, To: 12}}, []api.Range{{From: 3, To: 6}, {From: 9, To: 12}})
	wantOf(t, []api.Range{{From: 9, To: 12}, {From: 3, To: 5}, {From: 6, To: 6}}, []api.Range{{From: 3, To: 6}, {From: 9, To: 12}})
	wantOf(t, []api.Range{{From: 10, To: 90}, {From: 20, To: 30}, {From: 40, To: 95}, {From: 50, To: 60}}, []api.Range{{From: 10, To: 95}})
	wantOf(t, []api.Range{{From: 7, To: 7}, {From: 7, To: 7}, {From: 7, To: 7}}, []api.Range{{From: 7, To: 7}})
	wantOf(t, []api.Range{{From: 3, To: 4}, {From: 6, To: 7}}, []api.Range{{From: 3, To: 4}, {From: 6, To: 7}})
	wantOf(t, []api.Range{{From: last, To: last}, {From: 0, To: 0}}, []api.Range{{From: 0, To: 0}, {From: last, To: last}})
	wantOf(t, []api.Range{{From: last, To: last}, {From: 0, To: last - 1}}, All())
	wantOf(t, []api.Range{{From: last, To: last}, {From: 0, To: last - 2}}, []api.Range{{From: 0, To: last - 2}, {From: last, To: last}})
	wantOf(t, []api.Range{{From: 0, To: last}, {From: last, To: last}, {From: 0, To: 0}, {From: 0, To: last}}, All())
	wantOf(t, []api.Range{{From: 1, To: last}, {From: last, To: last}}, []api.Range{{From: 1, To: last}})
}

// P3.1 (Z1): Of, of a list with one range that is not right, at each place among right ones.
func TestOfWrong(t *testing.T) {
	for _, wrong := range []api.Range{{From: 1, To: 0}, {From: 13, To: 12}, {From: last, To: 0}, {From: last, To: last - 1}} {
		for i := range 5 {
			l := slices.Insert([]api.Range{{From: 20, To: 30}, {From: 3, To: 5}, {From: 0, To: last}, {From: last, To: last}}, i, wrong)
			if z, e := Of(l); e != api.ErrZone || len(z) != 0 {
				t.Errorf("Of(%v): %v, %v", l, z, e)
			}
		}
	}
}

// P3.1 (Z1): Of, of so many ranges that going through all for each would take too long, the last one first.
func TestOfMany(t *testing.T) {
	const n = 300_000
	var apart, touching []api.Range
	for i := range uint32(n) {
		apart = append(apart, api.Range{From: last - 2*i, To: last - 2*i})
		touching = append(touching, api.Range{From: last - i, To: last - i})
	}
	z, e := Of(apart)
	if e != api.OK || len(z) != n || !Right(z) || Count(z) != n {
		t.Errorf("%d ranges, %v", len(z), e)
	}
	if a, is := Least(z); a != last-2*(n-1) || !is {
		t.Errorf("the least: %v, %v", a, is)
	}
	for _, r := range apart {
		if !Has(z, r.From) || Has(z, r.From-1) {
			t.Fatalf("Has, at %v", r)
		}
	}
	wantOf(t, touching, []api.Range{{From: last - n + 1, To: last}})
	want(t, "Or", Or(z, Minus(All(), z)), All())
	want(t, "And", And(z, Minus(All(), z)), nil)
}

// P3.1 (Z1): Has, Count, Least, of each zone: at both ends of each cell, and beside them.
func TestWhatItHas(t *testing.T) {
	for _, c := range worlds() {
		for mask := range c.masks() {
			z := c.zone(mask)
			for i, r := range c {
				if has := mask>>i&1 == 1; Has(z, r.From) != has || Has(z, r.To) != has || Has(z, r.From+(r.To-r.From)/2) != has {
					t.Fatalf("%v has %v: not %v", z, r, has)
				}
			}
			if a := c[0].From; a > 0 && (Has(z, a-1) || Has(z, 0)) {
				t.Fatalf("%v has what is below", z)
			}
			if a := c[len(c)-1].To; a < last && (Has(z, a+1) || Has(z, last)) {
				t.Fatalf("%v has what is above", z)
			}
			if n := Count(z); n != c.count(mask) {
				t.Fatalf("Count(%v): %d; want %d", z, n, c.count(mask))
			}
			a, is := Least(z)
			if is != (mask != 0) || !is && a != 0 || is && a != c[bits.TrailingZeros(uint(mask))].From {
				t.Fatalf("Least(%v): %d, %v", z, a, is)
			}
		}
	}
}

// P3.1 (Z1): no address, one, and all.
func TestNoneOneAll(t *testing.T) {
	for _, z := range [][]api.Range{nil, {}} {
		if a, is := Least(z); a != 0 || is || Count(z) != 0 || Has(z, 0) || Has(z, last) {
			t.Errorf("none: %v, %v, %d", a, is, Count(z))
		}
	}
	for _, one := range []uint32{0, 1, 1 << 31, last - 1, last} {
		z := []api.Range{{From: one, To: one}}
		if a, is := Least(z); a != one || !is || Count(z) != 1 || !Has(z, one) || Has(z, one-1) || Has(z, one+1) {
			t.Errorf("%d: %v, %v, %d", one, a, is, Count(z))
		}
	}
	z := All()
	if a, is := Least(z); a != 0 || !is || Count(z) != 1<<32 || !Has(z, 0) || !Has(z, 1<<31) || !Has(z, last) {
		t.Errorf("all: %v, %v, %d", a, is, Count(z))
	}
}

// P3.1 (Z2): All.
func TestAll(t *testing.T) {
	want(t, "All", All(), []api.Range{{From: 0, To: last}})
}

// P3.1 (Z2): And, Or, Minus, of every two zones.
func TestEveryTwo(t *testing.T) {
	for _, c := range worlds() {
		for x := range c.masks() {
			for y := range c.masks() {
				a, b := c.zone(x), c.zone(y)
				want(t, "And", And(a, b), c.zone(x&y))
				want(t, "Or", Or(a, b), c.zone(x|y))
				want(t, "Minus", Minus(a, b), c.zone(x&^y))
			}
		}
	}
}

// P3.1 (Z2): with none, with itself, with all addresses, and what is left of these.
func TestWithNoneItselfAll(t *testing.T) {
	for _, c := range worlds() {
		for mask := range c.masks() {
			z := c.zone(mask)
			for _, none := range [][]api.Range{nil, {}} {
				want(t, "And none", And(z, none), nil)
				want(t, "none And", And(none, z), nil)
				want(t, "Or none", Or(z, none), z)
				want(t, "none Or", Or(none, z), z)
				want(t, "Minus none", Minus(z, none), z)
				want(t, "none Minus", Minus(none, z), nil)
			}
			want(t, "And itself", And(z, z), z)
			want(t, "Or itself", Or(z, z), z)
			want(t, "Minus itself", Minus(z, z), nil)
			want(t, "And all", And(z, All()), z)
			want(t, "all And", And(All(), z), z)
			want(t, "Or all", Or(z, All()), All())
			want(t, "all Or", Or(All(), z), All())
			want(t, "Minus all", Minus(z, All()), nil)
		}
	}
}

// P3.1 (Z2): what is left of all addresses: nothing ahead of address 0, nothing behind the last one.
func TestLeftOfAll(t *testing.T) {
	want(t, "none", Minus(All(), nil), All())
	want(t, "all", Minus(All(), All()), nil)
	want(t, "the first", Minus(All(), []api.Range{{From: 0, To: 0}}), []api.Range{{From: 1, To: last}})
	want(t, "the last", Minus(All(), []api.Range{{From: last, To: last}}), []api.Range{{From: 0, To: last - 1}})
	want(t, "both", Minus(All(), []api.Range{{From: 0, To: 0}, {From: last, To: last}}), []api.Range{{From: 1, To: last - 1}})
	want(t, "all but the last", Minus(All(), []api.Range{{From: 0, To: last - 1}}), []api.Range{{From: last, To: last}})
	want(t, "all but the first", Minus(All(), []api.Range{{From: 1, To: last}}), []api.Range{{From: 0, To: 0}})
	want(t, "all but one between", Minus(All(), []api.Range{{From: 0, To: 6}, {From: 8, To: last}}), []api.Range{{From: 7, To: 7}})
}
