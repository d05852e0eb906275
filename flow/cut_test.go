package flow

import (
	"slices"
	"testing"

	"waystone/api"
)

// model are a range's parts, told boundary by boundary.
func model(l []api.Network, r api.Range) []api.Range {
	parts := zn(r)
	for _, a := range cutsOf(l...) {
		if r.From < a && a <= r.To {
			parts[len(parts)-1].To = a - 1
			parts = append(parts, rg(a, r.To))
		}
	}
	return parts
}

// wantCut asks Cut.
func wantCut(t *testing.T, what string, l []api.Network, r api.Range, want []api.Range) {
	t.Helper()
	if got, e := Cut(l, r); e != api.OK || !slices.Equal(got, want) {
		t.Fatalf("%s: Cut(%v, %v): %v, %v; want %v", what, l, r, got, e, want)
	}
}

// ruled is a network with a rule of each of some ranges, of any kind, at any device.
func ruled(l ...api.Range) api.Network {
	n := net(top(nil, 1, 1, 1))
	for i, r := range l {
		n.Rules = append(n.Rules, api.Rule{ID: i + 1, Device: i % 3, Kind: api.RuleKind(i % 4), R: r})
	}
	return n
}

// some are ranges of all addresses, of one, of both ends, and others.
func some() []api.Range {
	return []api.Range{all(), rg(0, 0), rg(last, last), rg(7, 7), rg(0, 1), rg(last-1, last), rg(1, last-1), rg(10, 20), rg(1<<31, 1<<31), rg(100, 1<<31)}
}

// W1, P11.1: no boundary cuts: by no network, by networks without rules, and by rules of all addresses.
func TestCutByNone(t *testing.T) {
	for _, r := range some() {
		for _, l := range [][]api.Network{nil, {}, {ruled()}, {with(ordinary()), ruled(), with(most())}, {ruled(all())}, slices.Repeat([]api.Network{ruled()}, 12), slices.Repeat([]api.Network{ruled(all(), all(), all(), all())}, 12)} {
			wantCut(t, "by none", l, r, zn(r))
		}
	}
}

// W1, P11.1: one boundary, or two, in each place to the range, written out.
func TestCutPlaces(t *testing.T) {
	r := rg(10, 20)
	for _, c := range []struct {
		name string
		by   api.Range
		want []api.Range
	}{
		{"ahead", rg(2, 5), zn(r)},
		{"ahead, at the first address of all", rg(0, 0), zn(r)},
		{"up to just ahead", rg(2, 8), zn(r)},
		{"up to the one ahead", rg(2, 9), zn(r)},
		{"up to its first", rg(2, 10), zn(rg(10, 10), rg(11, 20))},
		{"its first", rg(10, 10), zn(rg(10, 10), rg(11, 20))},
		{"from its first on", rg(10, 30), zn(r)},
		{"from its second on", rg(11, 30), zn(rg(10, 10), rg(11, 20))},
		{"within", rg(13, 16), zn(rg(10, 12), rg(13, 16), rg(17, 20))},
		{"one within", rg(15, 15), zn(rg(10, 14), rg(15, 15), rg(16, 20))},
		{"the very range", r, zn(r)},
		{"all but its ends", rg(11, 19), zn(rg(10, 10), rg(11, 19), rg(20, 20))},
		{"from within on", rg(15, 30), zn(rg(10, 14), rg(15, 20))},
		{"up to within", rg(5, 15), zn(rg(10, 15), rg(16, 20))},
		{"up to the one ahead of its last", rg(5, 19), zn(rg(10, 19), rg(20, 20))},
		{"its last", rg(20, 20), zn(rg(10, 19), rg(20, 20))},
		{"from its last on", rg(20, last), zn(rg(10, 19), rg(20, 20))},
		{"up to its last", rg(5, 20), zn(r)},
		{"up to behind its last", rg(5, 21), zn(r)},
		{"from behind its last on", rg(21, 30), zn(r)},
		{"behind", rg(22, 30), zn(r)},
		{"behind, at the last address of all", rg(last, last), zn(r)},
		{"about", rg(5, 30), zn(r)},
		{"all", all(), zn(r)},
	} {
		wantCut(t, c.name, []api.Network{ruled(c.by)}, r, c.want)
		wantCut(t, c.name+", the fourth network", []api.Network{ruled(), ruled(all()), ruled(r), ruled(c.by)}, r, c.want)
		wantCut(t, c.name+", once more", []api.Network{ruled(c.by, c.by, c.by), ruled(c.by)}, r, c.want)
	}
}

// W1, P11.1: boundaries at the first and the last address of all, written out.
func TestCutEnds(t *testing.T) {
	for _, c := range []struct {
		r    api.Range
		by   []api.Range
		want []api.Range
	}{
		{all(), zn(rg(0, 0)), zn(rg(0, 0), rg(1, last))},
		{all(), zn(rg(last, last)), zn(rg(0, last-1), rg(last, last))},
		{all(), zn(rg(0, last-1)), zn(rg(0, last-1), rg(last, last))},
		{all(), zn(rg(1, last)), zn(rg(0, 0), rg(1, last))},
		{all(), zn(rg(1, last-1)), zn(rg(0, 0), rg(1, last-1), rg(last, last))},
		{all(), zn(rg(0, 9), rg(10, last)), zn(rg(0, 9), rg(10, last))},
		{all(), zn(rg(5, 9), rg(8, last)), zn(rg(0, 4), rg(5, 7), rg(8, 9), rg(10, last))},
		{rg(0, 0), zn(rg(0, 0), rg(last, last), rg(1, 1), all()), zn(rg(0, 0))},
		{rg(last, last), zn(rg(0, 0), rg(last, last), rg(0, last-1)), zn(rg(last, last))},
		{rg(0, 1), zn(rg(1, 5)), zn(rg(0, 0), rg(1, 1))},
		{rg(last-1, last), zn(rg(7, last-1)), zn(rg(last-1, last-1), rg(last, last))},
		{rg(7, 7), zn(rg(0, 7), rg(7, 7), rg(7, last), rg(6, 8)), zn(rg(7, 7))},
		{rg(0, 9), zn(rg(10, last)), zn(rg(0, 9))},
		{rg(10, last), zn(rg(0, 9)), zn(rg(10, last))},
	} {
		wantCut(t, "ends", []api.Network{ruled(c.by...)}, c.r, c.want)
		var each []api.Network
		for _, r := range c.by {
			each = append(each, ruled(r))
		}
		wantCut(t, "ends, by several", each, c.r, c.want)
		slices.Reverse(each)
		wantCut(t, "ends, by several, turned round", each, c.r, c.want)
	}
}

// W1, P11.1: twelve networks with as many rules as there may be, of as many boundaries as these can make, all of which cut.
func TestCutByTwelve(t *testing.T) {
	var l []api.Network
	a := uint32(100)
	for range 12 {
		var ranges []api.Range
		for range api.MaxRules {
			ranges = append(ranges, rg(a, a+4))
			a += 10
		}
		l = append(l, ruled(ranges...))
	}
	for _, r := range some() {
		wantCut(t, "by twelve", l, r, model(l, r))
	}
	parts, e := Cut(l, all())
	if e != api.OK || len(parts) != 2*12*api.MaxRules+1 {
		t.Errorf("by twelve: %d parts, %v", len(parts), e)
	}
	for _, r := range []api.Range{rg(100, a-1), rg(99, a), rg(103, a-8), rg(102, 102), rg(104, 105), rg(2000, 3000)} {
		wantCut(t, "by twelve", l, r, model(l, r))
	}
}

// W1, P11.1: each right range over the addresses about both ends, by each of some networks, and by all of these.
func TestCutDrawn(t *testing.T) {
	nets := append(rights()[:10], drawn(2)...)
	for _, from := range addresses() {
		for _, to := range addresses() {
			if from > to {
				continue
			}
			r := rg(from, to)
			wantCut(t, "by all", nets, r, model(nets, r))
			for _, n := range nets {
				wantCut(t, "by one", []api.Network{n}, r, model([]api.Network{n}, r))
			}
		}
	}
	for seed := range 100 {
		mix := mixer(seed)
		var l []api.Network
		for range mix.below(13) {
			l = append(l, mix.network())
		}
		for _, r := range some() {
			wantCut(t, "drawn", l, r, model(l, r))
		}
	}
}

// wantWhole asks Cut for parts that are a range, each address once.
func wantWhole(t *testing.T, l []api.Network, r api.Range) []api.Range {
	t.Helper()
	parts, e := Cut(l, r)
	next := uint64(r.From)
	for _, p := range parts {
		if uint64(p.From) != next || p.To < p.From {
			t.Fatalf("%v: Cut of %v: %v", l, r, parts)
		}
		next = uint64(p.To) + 1
	}
	if e != api.OK || next != uint64(r.To)+1 {
		t.Fatalf("%v: Cut of %v: %v, %v", l, r, parts, e)
	}
	return parts
}

// W1, P11.1: the parts are the range, and at each boundary that lies within one begins.
func TestCutIsWhole(t *testing.T) {
	for _, n := range append(rights(), drawn(60)...) {
		for _, r := range some() {
			parts := wantWhole(t, []api.Network{n}, r)
			for _, a := range cutsOf(n) {
				if r.From <= a && a <= r.To && !slices.ContainsFunc(parts, func(p api.Range) bool { return p.From == a }) {
					t.Fatalf("%v: Cut of %v: no part from %d on: %v", n, r, a, parts)
				}
			}
		}
	}
}

// W1, P11.1: a range that is not right, by networks that cut and that don't.
func TestCutNotRight(t *testing.T) {
	for _, l := range [][]api.Network{nil, {}, {ruled()}, {ordinary()}, {most(), ordinary()}, slices.Repeat([]api.Network{most()}, 12), wrongs()} {
		for _, r := range []api.Range{rg(1, 0), rg(2, 1), rg(101, 100), rg(last, 0), rg(last, last-1), rg(1<<31, 1<<31-1)} {
			if parts, e := Cut(l, r); e != api.ErrZone || len(parts) != 0 {
				t.Errorf("Cut of %v: %v, %v", r, parts, e)
			}
		}
	}
}
