package rule

import (
	"math"
	"slices"
	"sync"
	"testing"

	"waystone/api"
)

// marks stand in memory that no call may look at, or write into: they would be matched, denied, found and ahead of all.
func marks() []api.Rule {
	return []api.Rule{
		{ID: 999, Device: 3, Prio: 1024, Kind: api.Drop, R: rg(0, last)},
		{ID: 999, Device: 3, Prio: 1024, Kind: api.Deny, R: rg(0, last)},
		{ID: -1, Device: -1, Prio: -1, Kind: -1, R: rg(1, 0), Port: -1},
	}
}

// marked is a list with marks behind its length.
func marked(l []api.Rule) []api.Rule {
	return append(slices.Clone(l), marks()...)[:len(l)]
}

// wantMarked asks for a list that is as it was, with its marks.
func wantMarked(t *testing.T, what string, l, was []api.Rule) {
	t.Helper()
	if !slices.Equal(l, was) || !slices.Equal(l[:len(l)+3][len(l):], marks()) {
		t.Fatalf("%s: what was handed in is %v, not %v", what, l[:len(l)+3], was)
	}
}

// samples are lists, right ones first, then others.
func samples() [][]api.Rule {
	falling := many(6)
	slices.Reverse(falling)
	twice := append(many(3), many(3)...)
	wrong := many(4)
	wrong[2].Kind = 9
	backward := many(4)
	backward[1].R = rg(9, 3)
	mix := mixer(3)
	return [][]api.Rule{nil, {}, many(1), many(2), many(5), many(40), mix.crowded(), mix.crowded(), many(41), falling, twice, wrong, backward, {{}}, {{ID: math.MinInt, Device: math.MaxInt, Prio: math.MinInt, Kind: math.MaxInt, R: rg(last, 0), Port: math.MinInt}}}
}

// Rule 4: no call writes into a list that it is handed, right or not, or looks behind its length; P1: none panics.
func TestListsStay(t *testing.T) {
	for _, l := range samples() {
		x := marked(l)
		if All(x) != All(slices.Clone(l)) {
			t.Errorf("All looks behind %v", l)
		}
		wantMarked(t, "All", x, l)
		for _, id := range []int{math.MinInt, -1, 0, 1, 3, 999, api.MaxID, math.MaxInt} {
			got, is := Find(x, id)
			if want, was := Find(slices.Clone(l), id); got != want || is != was {
				t.Errorf("Find(%v, %d) looks behind: %v, %v", l, id, got, is)
			}
			wantMarked(t, "Find", x, l)
		}
		for _, device := range []int{math.MinInt, -1, 0, 3, 7, 8, math.MaxInt} {
			for _, a := range []uint32{0, 99, 100, 200, last} {
				got, is := Match(x, device, a)
				if want, was := Match(slices.Clone(l), device, a); got != want || is != was {
					t.Errorf("Match(%v, %d, %d) looks behind: %v, %v", l, device, a, got, is)
				}
				if Denies(x, device, a) != Denies(slices.Clone(l), device, a) {
					t.Errorf("Denies(%v, %d, %d) looks behind", l, device, a)
				}
				wantMarked(t, "Match, Denies", x, l)
			}
		}
	}
}

// Rule 4: Same writes into neither list, nor looks behind their lengths, be they one list or two.
func TestSameListsStay(t *testing.T) {
	for _, a := range samples() {
		for _, b := range samples() {
			x, y := marked(a), marked(b)
			if Same(x, y) != slices.Equal(a, b) || !Same(x, x) {
				t.Errorf("Same(%v, %v)", a, b)
			}
			wantMarked(t, "Same", x, a)
			wantMarked(t, "Same", y, b)
		}
	}
}

// P2: what was asked ahead, and of which list, changes no answer; what is written into a list counts the next time.
func TestNothingKept(t *testing.T) {
	l := many(8)
	first, _ := Match(l, 3, 150)
	for _, x := range samples() {
		All(x)
		Match(x, 3, 150)
		Denies(x, 3, 150)
		Parse("7 3 10 drop 0.0.0.5-0.0.0.6")
	}
	if again, is := Match(l, 3, 150); !is || again != first {
		t.Errorf("asked again: %v; want %v", again, first)
	}
	l[1].Prio = 500
	if r, _ := Match(l, 3, 150); r != l[1] {
		t.Errorf("of the list as it is now: %v; want %v", r, l[1])
	}
	if first != many(8)[0] {
		t.Errorf("an answer has changed: %v", first)
	}
	l[1].ID = 900
	if All(l) {
		t.Error("All of the list as it is now")
	}
}

// P2: several may ask at once, of one list.
func TestAskedAtOnce(t *testing.T) {
	mix := mixer(11)
	l := mix.crowded()
	var g sync.WaitGroup
	for range 8 {
		g.Go(func() {
			for i := range uint32(30) {
				wantMatchedQuietly(t, l, 1, i-11)
				for _, r := range l {
					if got, e := Parse(Text(r)); got != r || e != api.OK {
						t.Errorf("%v: %v, %v", r, got, e)
					}
				}
			}
		})
	}
	g.Wait()
}

// wantMatchedQuietly is for goroutines, which may not end the test.
func wantMatchedQuietly(t *testing.T, l []api.Rule, device int, a uint32) {
	var want api.Rule
	if took := inOrder(l, device, a, false); len(took) > 0 {
		want = took[0]
	}
	if r, _ := Match(l, device, a); r != want || !All(l) || !Same(l, l) {
		t.Errorf("Match(%v, %d, %d): %v; want %v", l, device, a, r, want)
	}
}
