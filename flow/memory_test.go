package flow

import (
	"math"
	"slices"
	"sync"
	"testing"

	"waystone/api"
)

// wrongs are networks that are not right, each in a way of its own, with rules that lead where they should not.
func wrongs() []api.Network {
	l := []api.Network{{}, {Rules: ordinary().Rules}, {T: top(nil, 2), Rules: []api.Rule{{Device: math.MinInt, R: all()}}}, line(9), line(100), ring(60), net(top(nil, slices.Repeat([]int{4}, 100000)...), by(0, 1, all(), 5))}
	for port := -1; port <= 4; port++ {
		for _, x := range []api.Topology{top(nil, 0), top(nil, -1, 2), top(nil, 5), top(nil, 2, math.MaxInt), top([]api.Link{ln(0, 0, 0, 0), ln(0, 1, 9, 9), ln(9, 9, -1, -1)}, 2, 2), top([]api.Link{ln(0, 2, 1, 0), ln(0, -1, 1, 0), ln(0, 2, -1, 1)}, 2, 2)} {
			l = append(l, net(x, by(0, port, all(), 5), by(1, port, rg(3, 9), 5), by(9, port, all(), 5), by(-1, port, all(), 5)))
		}
	}
	// From device 0 to one that there is not, whose rules lead on, and back.
	t := top([]api.Link{ln(0, 0, 9, 9), ln(9, 8, -1, -1), ln(-1, 7, math.MaxInt, math.MinInt), ln(math.MaxInt, 3, math.MinInt, 0), ln(0, 1, 0, 1), ln(0, 1, 1, 0)}, 2, 2)
	l = append(l, net(t, by(0, 0, all(), 5), by(9, 8, all(), 5), by(-1, 7, all(), 5), by(math.MaxInt, 3, all(), 5), by(math.MinInt, 0, all(), 5)))
	l = append(l, net(t, by(0, 1, rg(last, 0), 5), no(9, 0, all(), 9), no(-1, 0, all(), 9), by(0, 1, rg(5, 4), 5), by(1, 1, rg(3, 9), 5)))
	many := ordinary()
	many.Rules = slices.Repeat(many.Rules, 5)
	return append(l, many, crowd(600))
}

// crowd has so many rules, each of a range of its own.
func crowd(many int) api.Network {
	n := net(top([]api.Link{ln(0, 1, 1, 0)}, 2, 2))
	for i := range many {
		n.Rules = append(n.Rules, id(i+1, by(i%2, 1, rg(uint32(10*i), uint32(10*i+5)), i%7)))
	}
	return n
}

// answers are what every call tells of two networks, list by list; a list stands for each answer, beside its error.
type answers struct {
	lists  [][]api.Range
	errors []api.Errno
	after  func() // called behind each answer, if there is one
}

// add puts an answer behind.
func (w *answers) add(z []api.Range, e api.Errno) {
	w.lists, w.errors = append(w.lists, z), append(w.errors, e)
	if w.after != nil {
		w.after()
	}
}

// same tells whether two answers are alike.
func (w answers) same(v answers) bool {
	return slices.EqualFunc(w.lists, v.lists, slices.Equal[[]api.Range]) && slices.Equal(w.errors, v.errors)
}

// copied are the answers as they are now.
func (w answers) copied() answers {
	var v answers
	for i, z := range w.lists {
		v.add(slices.Clone(z), w.errors[i])
	}
	return v
}

// askAll asks every call, of any devices and ranges.
func askAll(x, y api.Network) answers {
	return askThen(x, y, nil)
}

// askThen asks every call, and does something behind each.
func askThen(x, y api.Network, after func()) answers {
	w := answers{after: after}
	for _, r := range []api.Range{all(), rg(0, 0), rg(last, last), rg(3, 9), rg(100, 1<<31), rg(9, 3), rg(last, 0)} {
		w.add(Cut([]api.Network{x, y}, r))
		w.add(Cut([]api.Network{y, x, x}, r))
	}
	devices := []int{math.MinInt, -1, 0, 1, len(x.T.Ports) - 1, len(x.T.Ports), math.MaxInt}
	for _, a := range devices {
		fates, e := Fates(x, a)
		for _, z := range fates {
			w.add(z, e)
		}
		w.add(Differs(x, y, a))
		w.add(Differs(y, x, a))
		for _, b := range devices {
			w.add(Visits(x, a, b))
			w.add(Delivers(x, a, b))
		}
	}
	return w
}

// marks stand behind the lengths of a network's lists: a call that looked there would find other ports, links and rules.
func marks() api.Network {
	return net(top([]api.Link{ln(0, 0, 0, 1), ln(1, 3, 2, 1), ln(-7, -7, -7, -7)}, 4, 0, -7), no(api.Deny, 0, all(), 1024), no(api.Drop, 0, rg(13, 17), 1024), no(-1, -1, rg(1, 0), -1))
}

// marked is a copy with marks behind its lists' lengths.
func marked(n api.Network) api.Network {
	m := marks()
	ports := append(slices.Clone(n.T.Ports), m.T.Ports...)
	links := append(slices.Clone(n.T.Links), m.T.Links...)
	rules := append(slices.Clone(n.Rules), m.Rules...)
	return api.Network{T: top(links[:len(n.T.Links)], ports[:len(n.T.Ports)]...), Rules: rules[:len(n.Rules)]}
}

// behind is a network whose lists go on to the end of their memory.
func behind(n api.Network) api.Network {
	return api.Network{T: top(n.T.Links[:cap(n.T.Links)], n.T.Ports[:cap(n.T.Ports)]...), Rules: n.Rules[:cap(n.Rules)]}
}

// sameNetwork tells list by list whether two networks are alike.
func sameNetwork(x, y api.Network) bool {
	return slices.Equal(x.T.Ports, y.T.Ports) && slices.Equal(x.T.Links, y.T.Links) && slices.Equal(x.Rules, y.Rules)
}

// spoil writes over all of a network's memory.
func spoil(n api.Network) {
	n = behind(n)
	for i := range n.T.Ports {
		n.T.Ports[i] = 77
	}
	for i := range n.T.Links {
		n.T.Links[i] = ln(7, 7, 7, 7)
	}
	for i := range n.Rules {
		n.Rules[i] = id(7, no(api.Deny, 7, rg(77, 777), 7))
	}
}

// P1: no call panics at networks that are not right, at any devices and ranges, and each ends; beside an error there is nothing.
func TestAnyArguments(t *testing.T) {
	l := append(wrongs(), rights()...)
	for i, x := range l {
		w := askAll(x, l[(i+1)%len(l)])
		for k, e := range w.errors {
			if e != api.OK && len(w.lists[k]) != 0 {
				t.Errorf("%d: beside %v: %v", i, e, w.lists[k])
			}
		}
	}
	for _, r := range some() {
		wantWhole(t, l, r)
		wantCut(t, "by many that have nothing", slices.Repeat([]api.Network{{}}, 100000), r, zn(r))
	}
}

// Rule 4: no call writes into a list that it is handed, or looks behind its length, be the network right or not.
func TestListsStay(t *testing.T) {
	l := append(rights(), wrongs()...)
	for i, n := range l {
		m := l[(i+1)%len(l)]
		x, y := marked(n), marked(m)
		one, other := twin(behind(x)), twin(behind(y))
		got := askThen(x, y, func() {
			if !sameNetwork(behind(x), one) || !sameNetwork(behind(y), other) {
				t.Fatalf("what was handed in is %v, %v, not %v, %v", behind(x), behind(y), one, other)
			}
		})
		if !got.same(askAll(twin(n), twin(m))) {
			t.Fatalf("looked behind the lists of %v, or %v", n, m)
		}
	}
}

// Rule 4: Cut writes into no list of networks, and looks behind none's length.
func TestNetworksStay(t *testing.T) {
	nets := []api.Network{ordinary(), most(), ruled(rg(5, 9)), ruled(rg(3, 33)), crowd(3)}
	for k := range nets {
		for _, r := range some() {
			wantCut(t, "of a list that goes on", nets[:k], r, model(slices.Clone(nets[:k]), r))
		}
	}
	if !sameNetwork(nets[0], ordinary()) || !sameNetwork(nets[1], most()) || !sameNetwork(nets[2], ruled(rg(5, 9))) || !sameNetwork(nets[3], ruled(rg(3, 33))) || !sameNetwork(nets[4], crowd(3)) {
		t.Error("what was handed in is not as it was")
	}
}

// Rule 4: no two lists that are answered share memory: all that is written into one, to the end of its memory, is in no other one, nor in what was handed in.
func TestAnswersAreNew(t *testing.T) {
	for seed, n := range rights() {
		mix := mixer(seed)
		x, y := twin(n), mix.other(n)
		one := askAll(x, y)
		was := one.copied()
		m := twin(y)
		for i, z := range one.lists {
			z = z[:cap(z)]
			for k := range z {
				z[k] = rg(77, 7)
			}
			for k := range one.lists[i+1:] {
				if next := one.lists[i+1+k]; !slices.Equal(next, was.lists[i+1+k]) {
					t.Fatalf("what is written into an answer is in another one, %v", next)
				}
			}
		}
		if !sameNetwork(x, n) || !sameNetwork(y, m) {
			t.Fatal("what is written into an answer is in what was handed in")
		}
		if !askAll(x, y).same(was) {
			t.Fatal("asked again: other answers")
		}
	}
}

// P2, rule 4: nothing is kept of what is handed in: what is written into it changes no answer that was given, and counts the next time.
func TestNothingKept(t *testing.T) {
	for seed, n := range rights() {
		mix := mixer(seed)
		x, y := marked(n), marked(mix.other(n))
		m := twin(y)
		one := askAll(x, y)
		was := one.copied()
		spoil(x)
		spoil(y)
		askAll(x, y)
		if !one.same(was) || !askAll(n, m).same(was) {
			t.Fatalf("an answer has changed, of %v", n)
		}
	}
	n := ordinary()
	wantVisits(t, "as it was", n, 0, 1, zn(rg(100, 199)))
	n.Rules[0].R = rg(110, 149)
	wantVisits(t, "as it is now", n, 0, 1, zn(rg(110, 149)))
	n.T.Links = n.T.Links[1:]
	wantVisits(t, "as it is now", n, 0, 1, nil)
	wantDelivers(t, "as it is now", n, 0, 0, zn(rg(110, 149), rg(200, 209)))
	n.T.Ports = n.T.Ports[:4]
	wantNoFates(t, n, 4)
}

// P2: several may ask at once, of the same networks.
func TestAskedAtOnce(t *testing.T) {
	x, y := ordinary(), changed(func(n *api.Network) { n.Rules[8].Port = 1 })
	want := askAll(x, y)
	var g sync.WaitGroup
	for range 8 {
		g.Go(func() {
			for range 5 {
				if !askAll(x, y).same(want) {
					t.Error("asked at once: other answers")
				}
			}
		})
	}
	g.Wait()
}
