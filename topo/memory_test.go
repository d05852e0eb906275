package topo

import (
	"math"
	"slices"
	"sync"
	"testing"

	"waystone/api"
)

// wrongs are topologies that are not right, each in a way of its own.
func wrongs() []api.Topology {
	huge := of([]api.Link{ln(0, 0, 1, 0)}, math.MaxInt, math.MaxInt, 1<<40)
	long := line(100000)
	many := of(slices.Repeat([]api.Link{ln(0, 0, 1, 0), ln(1, 1, 0, 0)}, 500), 4, 4)
	return []api.Topology{
		{}, of(nil, 0), of(nil, -1), of(nil, 5), huge, long, many, line(9), of(nil, math.MinInt, math.MaxInt),
		of([]api.Link{ln(0, 0, 1, 0)}), of([]api.Link{ln(0, 0, 0, 0)}, 1), of([]api.Link{ln(0, 0, 5, 0)}, 2, 2), of([]api.Link{ln(-1, 0, 0, 0)}, 2, 2),
		of([]api.Link{ln(0, 0, 1, 9)}, 2, 2), of([]api.Link{ln(0, -9, 1, 0)}, 2, 2), of([]api.Link{ln(0, 0, 8, 0), ln(8, 0, 9, 0)}, 4, 4),
		of([]api.Link{ln(0, 0, 1, 0), ln(0, 0, 1, 1)}, 2, 2), of([]api.Link{ln(0, 0, 1, 0), ln(1, 0, 0, 1), ln(0, 0, 0, 1)}, 2, 2),
		of([]api.Link{ln(math.MinInt, math.MaxInt, math.MaxInt, math.MinInt), ln(math.MaxInt, 0, 0, math.MaxInt)}, 1, 1),
		of([]api.Link{ln(0, 0, 1, 0)}, 0, 1), of([]api.Link{ln(0, 1, 1, 0)}, 1, -3), of(nil, 1, 1, 1, 1, 1, 1, 1, 1, 0),
	}
}

// someNumbers are devices, or ports, that there may be, and such as there are not.
func someNumbers() []int { return append(ends(), 0, 1, 3, 5) }

// answers are what every call tells of a topology.
type answers struct {
	right bool
	edges []api.Port
	bools []bool
	next  []api.Port
}

// askAll asks every call, of anything.
func askAll(x api.Topology) answers {
	a := answers{right: Right(x), edges: Edges(x)}
	for _, i := range someNumbers() {
		for _, k := range someNumbers() {
			q, is := Next(x, pt(i, k))
			a.next = append(a.next, q)
			a.bools = append(a.bools, is, Has(x, pt(i, k)), Reaches(x, i, k))
			for kind := api.RuleKind(-1); kind <= 4; kind++ {
				a.bools = append(a.bools, Fits(x, []api.Rule{ruleOf(kind, 0, 0), ruleOf(kind, i, k)}))
			}
		}
	}
	a.bools = append(a.bools, Same(x, x), Same(x, api.Topology{}), Same(ordinary(), x), Fits(x, nil))
	return a
}

// same tells whether two answers are alike.
func (a answers) same(b answers) bool {
	return a.right == b.right && slices.Equal(a.edges, b.edges) && slices.Equal(a.bools, b.bools) && slices.Equal(a.next, b.next)
}

// marked is a copy with marks behind its lists' lengths: a call that looked there would find ports and links, that are in use too.
func marked(t api.Topology) api.Topology {
	ports := append(slices.Clone(t.Ports), 4, 0, -7)
	links := append(slices.Clone(t.Links), ln(0, 0, 0, 1), ln(1, 0, 0, 0), ln(-7, -7, -7, -7))
	return api.Topology{Ports: ports[:len(t.Ports)], Links: links[:len(t.Links)]}
}

// wantMarked asks for a topology that is as it was, with its marks.
func wantMarked(t *testing.T, what string, x, was api.Topology) {
	t.Helper()
	n, m := len(was.Ports), len(was.Links)
	if !slices.Equal(x.Ports[:n+3], append(slices.Clone(was.Ports), 4, 0, -7)) {
		t.Fatalf("%s: ports handed in are %v, not %v", what, x.Ports[:n+3], was.Ports)
	}
	if !slices.Equal(x.Links[:m+3], append(slices.Clone(was.Links), ln(0, 0, 0, 1), ln(1, 0, 0, 0), ln(-7, -7, -7, -7))) {
		t.Fatalf("%s: links handed in are %v, not %v", what, x.Links[:m+3], was.Links)
	}
}

// P1: no call panics at a topology that is not right, and each ends; of Right it is not.
func TestNotRight(t *testing.T) {
	for i, x := range wrongs() {
		if askAll(x).right {
			t.Errorf("%d is right", i)
		}
	}
}

// Rule 4: no call writes into a list that it is handed, or looks behind its length, be the topology right or not.
func TestListsStay(t *testing.T) {
	for _, x := range append(rights(), wrongs()...) {
		y := marked(x)
		if !askAll(y).same(askAll(copied(x))) {
			t.Errorf("looked behind the lists of %v", x)
		}
		wantMarked(t, "asked", y, x)
	}
}

// Rule 4: Same writes into neither, nor looks behind their lengths.
func TestSameListsStay(t *testing.T) {
	all := rights()[:20]
	for _, a := range all {
		for _, b := range all {
			x, y := marked(a), marked(b)
			if Same(x, y) != Same(a, b) || !Same(x, a) || !Same(b, y) {
				t.Errorf("Same of %v, %v looks behind", a, b)
			}
			wantMarked(t, "Same", x, a)
			wantMarked(t, "Same", y, b)
		}
	}
}

// Rule 4: Fits writes into no rules, right or not, nor looks behind their length.
func TestRulesStay(t *testing.T) {
	x := ordinary()
	for _, was := range [][]api.Rule{nil, {ruleOf(api.Forward, 0, 1), ruleOf(api.Drop, 4, 0)}, {ruleOf(api.Deny, 1, 0), ruleOf(api.Forward, 0, 2)}, {{}, {ID: -1, Device: -1, Kind: 9, Port: -1}}} {
		mark := ruleOf(api.Forward, 9, 9)
		l := append(slices.Clone(was), mark)[:len(was)]
		if Fits(x, l) != Fits(x, slices.Clone(was)) {
			t.Errorf("Fits looks behind %v", was)
		}
		if !slices.Equal(l, was) || l[:len(was)+1][len(was)] != mark {
			t.Errorf("what was handed in is %v, not %v", l[:len(was)+1], was)
		}
	}
}

// Rule 4: Edges answers new memory each time.
func TestEdgesNew(t *testing.T) {
	x := ordinary()
	one, two := Edges(x), Edges(x)
	for i := range one {
		one[i] = pt(9, 9)
	}
	if !slices.Equal(two, Edges(x)) || slices.Contains(two, pt(9, 9)) || !Same(x, ordinary()) {
		t.Errorf("what is written into an answer is in %v, or %v", two, Edges(x))
	}
}

// P2, rule 4: what was asked ahead changes no answer, and nothing is kept: what is written into a topology counts the next time.
func TestNothingKept(t *testing.T) {
	x := ordinary()
	first := askAll(x)
	for _, y := range append(rights(), wrongs()...) {
		askAll(y)
	}
	if !askAll(x).same(first) {
		t.Error("asked again: other answers")
	}
	edges := Edges(x)
	kept := slices.Clone(edges)
	x.Links[0] = ln(4, 0, 0, 0)
	x.Ports[2] = 3
	wantNext(t, x, pt(0, 0), pt(4, 0))
	wantNoNext(t, x, pt(0, 1))
	wantEdges(t, x, pt(0, 1), pt(1, 0), pt(1, 1), pt(2, 0), pt(2, 1), pt(3, 2))
	wantReaches(t, x, 0, 4, true)
	wantReaches(t, x, 0, 1, false)
	wantFits(t, x, false, ruleOf(api.Forward, 2, 3))
	wantRight(t, "as it is now", x, true)
	wantSame(t, "as it is now", x, ordinary(), false)
	if !slices.Equal(edges, kept) {
		t.Errorf("an answer has changed: %v, not %v", edges, kept)
	}
}

// P2: several may ask at once, of one topology.
func TestAskedAtOnce(t *testing.T) {
	x := full()
	want := askAll(x)
	var g sync.WaitGroup
	for range 8 {
		g.Go(func() {
			for range 20 {
				if !askAll(x).same(want) {
					t.Error("asked at once: other answers")
				}
			}
		})
	}
	g.Wait()
}
