package fate

import (
	"math"
	"slices"
	"sync"
	"testing"

	"waystone/api"
)

// wrongs are networks that are not right, each in a way of its own, with rules that lead where they should not.
func wrongs() []api.Network {
	l := []api.Network{{}, {Rules: ordinary().Rules}, {Rules: []api.Rule{{Device: math.MinInt, R: all()}}}, net(line(100000).T, by(0, 1, all(), 5), by(1, 1, all(), 5)), line(9), line(500), ring(300)}
	for _, x := range wrongTopologies() {
		for port := -1; port <= 4; port++ {
			l = append(l, net(x, by(0, port, all(), 5), by(1, port, all(), 5), by(2, port, all(), 5), by(-1, port, all(), 5)))
		}
	}
	n := ordinary()
	n.T.Links = append(n.T.Links, ln(0, 0, 9, 9), ln(9, 9, -1, -1), ln(-1, -1, math.MaxInt, math.MinInt), ln(4, 0, 4, 0), ln(1, 3, 5, 0))
	l = append(l, n)
	// From device 0 to one that there is not, whose rules lead on, and back.
	t := top([]api.Link{ln(0, 0, 9, 9), ln(9, 8, -1, -1), ln(-1, 7, math.MaxInt, math.MinInt), ln(math.MaxInt, 3, math.MinInt, 0), ln(0, 1, 0, 1), ln(0, 1, 1, 0)}, 2, 2)
	l = append(l, net(t, by(0, 0, all(), 5), by(9, 8, all(), 5), by(-1, 7, all(), 5), by(math.MaxInt, 3, all(), 5), by(math.MinInt, 0, all(), 5)))
	l = append(l, net(t, by(0, 1, all(), 5), by(1, 0, all(), 5)), net(t, by(0, 1, rg(last, 0), 5), no(9, 0, all(), 9), no(-1, 0, all(), 9)))
	twice := ordinary()
	twice.Rules = slices.Repeat(twice.Rules, 5)
	return append(l, twice)
}

// answers are what every call tells of a network.
type answers struct {
	right  bool
	fates  []api.Fate
	ports  []api.Port
	traces []api.Trace
	errors []api.Errno
	bools  []bool
}

// askAll asks every call, of anything.
func askAll(n api.Network) answers {
	w := answers{right: Right(n)}
	for _, d := range append(far(), 0, 1, 2, 4, 7, len(n.T.Ports), len(n.T.Ports)-1) {
		for _, a := range []uint32{0, 5, 105, 155, 165, 1 << 31, last} {
			f, p := Step(n, d, a)
			x, e := Trace(n, d, a)
			w.fates, w.ports = append(w.fates, f), append(w.ports, p)
			w.traces, w.errors = append(w.traces, x), append(w.errors, e)
			w.bools = append(w.bools, Genuine(n, a, x), Genuine(n, a, tr(api.Lost, d)), Genuine(n, a, api.Trace{}), Same(x, x))
		}
	}
	return w
}

// same tells whether two answers are alike.
func (w answers) same(v answers) bool {
	return w.right == v.right && slices.Equal(w.fates, v.fates) && slices.Equal(w.ports, v.ports) && slices.EqualFunc(w.traces, v.traces, alike) && slices.Equal(w.errors, v.errors) && slices.Equal(w.bools, v.bools)
}

// marks stand behind the lengths of a network's lists: a call that looked there would find other ports, links and rules.
func marks() api.Network {
	return net(top([]api.Link{ln(0, 0, 0, 1), ln(1, 3, 2, 1), ln(-7, -7, -7, -7)}, 4, 0, -7), no(api.Deny, 0, all(), 1024), no(api.Drop, 0, all(), 1024), no(-1, -1, rg(1, 0), -1))
}

// marked is a copy with marks behind its lists' lengths.
func marked(n api.Network) api.Network {
	m := marks()
	ports := append(slices.Clone(n.T.Ports), m.T.Ports...)
	links := append(slices.Clone(n.T.Links), m.T.Links...)
	rules := append(slices.Clone(n.Rules), m.Rules...)
	return api.Network{T: top(links[:len(n.T.Links)], ports[:len(n.T.Ports)]...), Rules: rules[:len(n.Rules)]}
}

// wantMarked asks for a network that is as it was, with its marks.
func wantMarked(t *testing.T, what string, n, was api.Network) {
	t.Helper()
	m := marks()
	if !slices.Equal(n.T.Ports[:len(n.T.Ports)+3], append(slices.Clone(was.T.Ports), m.T.Ports...)) {
		t.Fatalf("%s: ports handed in are %v, not %v", what, n.T.Ports, was.T.Ports)
	}
	if !slices.Equal(n.T.Links[:len(n.T.Links)+3], append(slices.Clone(was.T.Links), m.T.Links...)) {
		t.Fatalf("%s: links handed in are %v, not %v", what, n.T.Links, was.T.Links)
	}
	if !slices.Equal(n.Rules[:len(n.Rules)+3], append(slices.Clone(was.Rules), m.Rules...)) {
		t.Fatalf("%s: rules handed in are %v, not %v", what, n.Rules, was.Rules)
	}
}

// P1: no call panics at a network that is not right, at any device, and each ends; of Right it is not.
func TestNotRight(t *testing.T) {
	for i, n := range wrongs() {
		if askAll(n).right {
			t.Errorf("%d is right", i)
		}
	}
}

// P1: Genuine and Same end, and do not panic, at any trace.
func TestAnyTrace(t *testing.T) {
	l := append(traces(), tr(api.Lost, upTo(0, 100000)...), tr(math.MinInt, slices.Repeat([]int{math.MinInt}, 1000)...))
	for _, n := range append(wrongs(), rights()...) {
		for _, x := range l {
			if Genuine(n, 5, x) && len(x.Devices) == 0 || !Same(x, x) {
				t.Errorf("%v: %v", n, x)
			}
		}
	}
}

// Rule 4: no call writes into a list that it is handed, or looks behind its length, be the network right or not.
func TestListsStay(t *testing.T) {
	for _, n := range append(rights(), wrongs()...) {
		x := marked(n)
		if !askAll(x).same(askAll(copied(n))) {
			t.Errorf("looked behind the lists of %v", n)
		}
		wantMarked(t, "asked", x, n)
	}
}

// Rule 4: Genuine and Same write into no trace, nor look behind its length.
func TestTracesStay(t *testing.T) {
	n := ordinary()
	for _, x := range traces() {
		for _, y := range append(traces(), follow(n, nil, 0, 155), follow(n, nil, 1, 165)) {
			// What stands behind the one's length is what the other one has more.
			mark := append(slices.Clone(x.Devices), y.Devices[min(len(x.Devices), len(y.Devices)):]...)
			mark = append(mark, 2, 1, -7)
			was := slices.Clone(mark)
			z := api.Trace{Devices: mark[:len(x.Devices)], Fate: x.Fate, Out: x.Out}
			if Same(z, y) != alike(x, y) || Same(y, z) != alike(x, y) {
				t.Errorf("Same of %v, %v looks behind", x, y)
			}
			want := len(x.Devices) > 0 && x.Devices[0] >= 0 && x.Devices[0] < 5 && alike(x, follow(n, nil, x.Devices[0], 155))
			if Genuine(n, 155, z) != want {
				t.Errorf("Genuine of %v looks behind", x)
			}
			if !slices.Equal(mark, was) {
				t.Fatalf("what was handed in is %v, not %v", mark, was)
			}
		}
	}
}

// Rule 4: Trace answers new memory each time, and none of the network's.
func TestTraceNew(t *testing.T) {
	for _, n := range rights() {
		was := copied(n)
		for d := range n.T.Ports {
			for _, a := range []uint32{0, 155, 165, 182, last} {
				one, _ := Trace(n, d, a)
				two, _ := Trace(n, d, a)
				kept := slices.Clone(two.Devices)
				one.Devices = one.Devices[:cap(one.Devices)]
				for i := range one.Devices {
					one.Devices[i] = 99
				}
				if three, _ := Trace(n, d, a); !slices.Equal(two.Devices, kept) || !alike(two, three) {
					t.Fatalf("what is written into an answer is in %v, or %v", two, three)
				}
			}
		}
		if !slices.Equal(n.T.Ports, was.T.Ports) || !slices.Equal(n.T.Links, was.T.Links) || !slices.Equal(n.Rules, was.Rules) {
			t.Fatalf("what is written into an answer is in %v", n)
		}
	}
}

// P2, rule 4: what was asked ahead changes no answer, and nothing is kept: what is written into a network counts the next time.
func TestNothingKept(t *testing.T) {
	n := ordinary()
	first := askAll(n)
	for _, x := range append(rights(), wrongs()...) {
		askAll(x)
	}
	if !askAll(n).same(first) {
		t.Error("asked again: other answers")
	}
	one, _ := Trace(n, 0, 155)
	n.Rules[0].Port = 0
	wantTrace(t, n, 0, 155, leaves(0, 0))
	n.Rules[0].Port = 1
	n.T.Links[0] = ln(0, 1, 3, 0)
	n.T.Links[2] = ln(1, 2, 1, 0)
	wantTrace(t, n, 0, 185, tr(api.Looped, 0, 3, 0))
	wantRight(t, "as it is now", n, true)
	n.T.Ports[3] = 2
	wantRight(t, "as it is now", n, false)
	n.T.Links = n.T.Links[:0]
	wantTrace(t, n, 0, 155, leaves(1, 0))
	n.T.Ports = n.T.Ports[:3]
	if _, e := Trace(n, 3, 155); e != api.ErrDevice {
		t.Errorf("as it is now: %v", e)
	}
	if !alike(one, leaves(1, 0, 1, 2)) {
		t.Errorf("an answer has changed: %v", one)
	}
}

// P2: several may ask at once, of one network.
func TestAskedAtOnce(t *testing.T) {
	n := ordinary()
	want := askAll(n)
	var g sync.WaitGroup
	for range 8 {
		g.Go(func() {
			for range 20 {
				if !askAll(n).same(want) {
					t.Error("asked at once: other answers")
				}
			}
		})
	}
	g.Wait()
}
