package zone

import (
	"iter"
	"slices"
	"testing"

	"waystone/api"
)

// mark stands in memory that no call may look at, or write into.
var mark = api.Range{From: 77, To: 7}

// marked is a list with marks behind its length.
func marked(l []api.Range) []api.Range {
	m := append(slices.Clone(l), mark, mark, mark)
	return m[:len(l)]
}

// spoil writes into all memory of a list, what lies behind its length too.
func spoil(l []api.Range) {
	l = l[:cap(l)]
	for i := range l {
		l[i] = api.Range{From: 1234, To: 5678}
	}
}

// wantMarked asks for a list that is as it was, with its marks.
func wantMarked(t *testing.T, what string, l, was []api.Range) {
	t.Helper()
	if !slices.Equal(l, was) || !slices.Equal(l[:len(l)+3][len(l):], []api.Range{mark, mark, mark}) {
		t.Fatalf("%s: what was handed in is %v, not %v", what, l[:len(l)+3], was)
	}
}

// call is one that answers a zone.
type call struct {
	name string
	do   func(x, y []api.Range) []api.Range
}

// calls are all of those.
func calls() []call {
	return []call{
		{"And", And}, {"Or", Or}, {"Minus", Minus},
		{"Of", func(x, y []api.Range) []api.Range {
			z, _ := Of(x)
			return z
		}},
		{"All", func(x, y []api.Range) []api.Range { return All() }},
	}
}

// samples are zones, some of which hold each other, touch, or have nothing in common.
func samples() [][]api.Range {
	return [][]api.Range{
		nil,
		{},
		{{From: 3, To: 6}, {From: 9, To: 12}},
		{{From: 0, To: 3}, {From: 5, To: 10}},
		{{From: 7, To: 8}, {From: 13, To: last}},
		{{From: 0, To: 0}, {From: 2, To: 2}, {From: 4, To: 4}, {From: 6, To: 6}, {From: 8, To: 8}},
		{{From: 0, To: 0}, {From: last, To: last}},
		{{From: 0, To: last}},
	}
}

// Rule 4: what is handed in stays as it was, with what lies behind it, and no answer shares memory with it or with another one.
func TestOwnMemory(t *testing.T) {
	for _, c := range calls() {
		for _, a := range samples() {
			for _, b := range samples() {
				x, y := marked(a), marked(b)
				one := c.do(x, y)
				other := c.do(x, y)
				wantMarked(t, c.name, x, a)
				wantMarked(t, c.name, y, b)
				keep := slices.Clone(other)
				spoil(one)
				wantMarked(t, c.name+", written into", x, a)
				wantMarked(t, c.name+", written into", y, b)
				want(t, c.name+", the other answer", other, keep)
				want(t, c.name+", asked again", c.do(x, y), keep)
				spoil(x)
				spoil(y)
				want(t, c.name+", what was handed in written into", other, keep)
			}
		}
	}
}

// Rule 4: a list that is handed in twice, and pieces of one list.
func TestSharedArguments(t *testing.T) {
	for _, c := range calls() {
		for _, a := range samples() {
			x := marked(a)
			keep := c.do(slices.Clone(a), slices.Clone(a))
			one := c.do(x, x)
			spoil(one)
			wantMarked(t, c.name, x, a)
			want(t, c.name, c.do(x, x), keep)
			for i := range a {
				want(t, c.name, c.do(x[:i], x[i:]), c.do(slices.Clone(a[:i]), slices.Clone(a[i:])))
				wantMarked(t, c.name, x, a)
			}
		}
	}
}

// Rule 4: a list that is not in order stays so; one that is refused, too.
func TestOfLeavesItsList(t *testing.T) {
	for _, l := range [][]api.Range{
		{{From: 9, To: 12}, {From: 3, To: 5}, {From: 6, To: 6}, {From: 4, To: 4}},
		{{From: 5, To: 6}, {From: 5, To: 5}, {From: 0, To: last}},
		{{From: 9, To: 12}, {From: 3, To: 5}, {From: 2, To: 1}},
	} {
		x := marked(l)
		z, _ := Of(x)
		wantMarked(t, "Of", x, l)
		spoil(z)
		wantMarked(t, "Of, written into", x, l)
	}
}

// Rule 4: the calls that answer no zone leave what is handed in.
func TestAskingLeavesIt(t *testing.T) {
	for _, a := range append(samples(), []api.Range{{From: 9, To: 3}, {From: 2, To: 1}}) {
		x := marked(a)
		Right(x)
		Has(x, 9)
		Count(x)
		Least(x)
		wantMarked(t, "asked", x, a)
	}
}

// P1: lists that are no zones: every call ends, none panics, and the lists stay as they were.
func TestNoZones(t *testing.T) {
	var all [][]api.Range
	for l := range lists([]api.Range{{From: 2, To: 1}, {From: 0, To: 2}, {From: last, To: 0}, {From: last - 1, To: last}, {From: 0, To: last}}) {
		all = append(all, l)
	}
	for _, a := range all {
		x := marked(a)
		Right(x)
		Of(x)
		Count(x)
		Least(x)
		for _, addr := range []uint32{0, 1, 2, last - 1, last} {
			Has(x, addr)
		}
		for _, b := range all {
			y := marked(b)
			And(x, y)
			Or(x, y)
			Minus(x, y)
			wantMarked(t, "no zone", x, a)
			wantMarked(t, "no zone", y, b)
		}
	}
}

// What is yielded may be left off at any time, and begun again.
func TestLeftOff(t *testing.T) {
	x := []api.Range{{From: 3, To: 6}, {From: 9, To: 12}, {From: 20, To: 30}}
	y := []api.Range{{From: 0, To: 3}, {From: 5, To: 10}, {From: 25, To: 26}}
	for name, seq := range map[string]iter.Seq[api.Range]{"common": common(x, y), "both": both(x, y), "gaps": gaps(x)} {
		whole := slices.Collect(seq)
		for n := 1; n <= len(whole); n++ {
			var got []api.Range
			for r := range seq {
				got = append(got, r)
				if len(got) == n {
					break
				}
			}
			if !slices.Equal(got, whole[:n]) {
				t.Errorf("%s: %v; want %v", name, got, whole[:n])
			}
		}
	}
}
