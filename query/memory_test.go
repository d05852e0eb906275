package query

import (
	"math"
	"slices"
	"sync"
	"testing"

	"waystone/api"
)

// wrongs are networks that are not right, each in a way of its own, with rules that lead where they should not.
func wrongs() []api.Network {
	l := []api.Network{{}, {Rules: ordinary().Rules}, {T: top(nil, 2), Rules: []api.Rule{{Device: math.MinInt, R: all()}}}, line(9), line(60), ring(60), net(top(nil, slices.Repeat([]int{4}, 10000)...), by(0, 1, all(), 5))}
	for port := -1; port <= 4; port++ {
		for _, x := range []api.Topology{top(nil, 0), top(nil, -1, 2), top(nil, 5), top(nil, 2, math.MaxInt), top([]api.Link{ln(0, 0, 0, 0), ln(0, 1, 9, 9), ln(9, 9, -1, -1)}, 2, 2), top([]api.Link{ln(0, 2, 1, 0), ln(0, -1, 1, 0), ln(0, 2, -1, 1)}, 2, 2)} {
			l = append(l, net(x, by(0, port, all(), 5), by(1, port, rg(3, 9), 5), by(9, port, all(), 5), by(-1, port, all(), 5)))
		}
	}
	// From device 0 to one that there is not, whose rules lead on, and back.
	t := top([]api.Link{ln(0, 0, 9, 9), ln(9, 8, -1, -1), ln(-1, 7, math.MaxInt, math.MinInt), ln(math.MaxInt, 3, math.MinInt, 0), ln(0, 1, 0, 1), ln(0, 1, 1, 0)}, 2, 2)
	l = append(l, net(t, by(0, 0, all(), 5), by(9, 8, all(), 5), by(-1, 7, all(), 5), by(math.MaxInt, 3, all(), 5), by(math.MinInt, 0, all(), 5)))
	l = append(l, net(t, by(0, 1, rg(last, 0), 5), no(9, 0, all(), 9), no(-1, 0, all(), 9), by(0, 1, rg(5, 4), 5), by(1, 1, rg(3, 9), 5)))
	many := ordinary()
	many.Rules = slices.Repeat(many.Rules, 5)
	return append(l, many, crowd(600))
}

// crowd has so many rules, each of a range of its own.
func crowd(many int) api.Network {
	n := net(top([]api.Link{ln(0, 1, 1, 0)}, 2, 2))
	for i := range many {
		n.Rules = append(n.Rules, id(i+1, by(i%2, 1, rg(uint32(10*i), uint32(10*i+5)), i%7)))
	}
	return n
}

// anyQueries are queries, right and not, of a network.
func anyQueries(n api.Network) []api.Query {
	var l []api.Query
	end := len(n.T.Ports) - 1
	for _, k := range append(kinds(), math.MinInt, -1, 6, math.MaxInt) {
		for _, r := range []api.Range{all(), rg(last, last), rg(100, 1<<31), rg(9, 3), rg(last, 0)} {
			l = append(l, api.Query{Kind: k, R: r}, api.Query{Kind: k, A: end, R: r}, api.Query{Kind: k, A: end, B: end, W: end, R: r}, api.Query{Kind: k, R: r, Other: "other"})
		}
		for _, d := range append(beyond(n), 1, end) {
			l = append(l, api.Query{Kind: k, A: d, R: all()}, api.Query{Kind: k, B: d, R: all()}, api.Query{Kind: k, W: d, R: all()}, api.Query{Kind: k, A: d, B: d, W: d})
		}
	}
	return l
}

// anyTraces are traces, of packets and of none, that a network may have or not.
func anyTraces() []api.Trace {
	return []api.Trace{{}, tr(api.Lost, 0), tr(api.Looped, 0, 1, 0), out(1, 0, 1), tr(api.Denied, 1), tr(99, -1), tr(-1, math.MaxInt, 0), {Fate: api.Delivered}, {Devices: make([]int, 40), Fate: math.MinInt, Out: api.Port{Device: -1, Port: math.MinInt}}}
}

// answers are what calls tell: lists, and all else.
type answers struct {
	lists    [][]int
	verdicts []api.Verdict // without their traces' devices, which are lists
	errors   []api.Errno
	bools    []bool
	after    func() // called behind each answer, if there is one
}

// list puts a list behind.
func (w *answers) list(l []int) {
	w.lists = append(w.lists, l)
	w.tell()
}

// run puts a verdict behind.
func (w *answers) run(v api.Verdict, e api.Errno) {
	w.lists = append(w.lists, v.Trace.Devices)
	v.Trace.Devices = nil
	w.verdicts, w.errors = append(w.verdicts, v), append(w.errors, e)
	w.tell()
}

// is puts a bool behind.
func (w *answers) is(b bool) {
	w.bools = append(w.bools, b)
	w.tell()
}

// tell calls what is to be done behind each answer.
func (w *answers) tell() {
	if w.after != nil {
		w.after()
	}
}

// same tells whether two answers are alike.
func (w answers) same(v answers) bool {
	return slices.EqualFunc(w.lists, v.lists, slices.Equal[[]int]) && slices.EqualFunc(w.verdicts, v.verdicts, alike) && slices.Equal(w.errors, v.errors) && slices.Equal(w.bools, v.bools)
}

// copied are the answers as they are now.
func (w answers) copied() answers {
	v := answers{verdicts: slices.Clone(w.verdicts), errors: slices.Clone(w.errors), bools: slices.Clone(w.bools)}
	for _, l := range w.lists {
		v.lists = append(v.lists, slices.Clone(l))
	}
	return v
}

// askAll asks every call.
func askAll(x, y api.Network) answers {
	return askThen(x, y, anyTraces(), nil)
}

// askThen asks every call, of traces too, and does something behind each.
func askThen(x, y api.Network, traces []api.Trace, after func()) answers {
	w := answers{after: after}
	for i, q := range anyQueries(x) {
		w.is(Right(x, q))
		w.list(Sources(x, q))
		w.run(Run(x, y, q))
		w.run(Run(x, x, q))
		for k, t := range traces {
			w.is(Breaks(x, y, q, t, traces[(i+k)%len(traces)]))
		}
	}
	for _, t := range traces {
		for _, u := range traces {
			w.is(Same(broken(3, 9, t), broken(3, 9, u)))
			w.is(Same(api.Verdict{Holds: true, From: -1, Trace: t}, api.Verdict{Trace: u}))
		}
	}
	return w
}

// marks stand behind the lengths of a network's lists: a call that looked there would find other ports, links and rules.
func marks() api.Network {
	return net(top([]api.Link{ln(0, 0, 0, 1), ln(1, 3, 2, 1), ln(-7, -7, -7, -7)}, 4, 0, -7), no(api.Deny, 0, all(), 1024), no(api.Drop, 0, rg(13, 17), 1024), no(-1, -1, rg(1, 0), -1))
}

// marked is a copy with marks behind its lists' lengths.
func marked(n api.Network) api.Network {
	m := marks()
	ports := append(slices.Clone(n.T.Ports), m.T.Ports...)
	links := append(slices.Clone(n.T.Links), m.T.Links...)
	rules := append(slices.Clone(n.Rules), m.Rules...)
	return api.Network{T: top(links[:len(n.T.Links)], ports[:len(n.T.Ports)]...), Rules: rules[:len(n.Rules)]}
}

// behind is a network whose lists go on to the end of their memory.
func behind(n api.Network) api.Network {
	return api.Network{T: top(n.T.Links[:cap(n.T.Links)], n.T.Ports[:cap(n.T.Ports)]...), Rules: n.Rules[:cap(n.Rules)]}
}

// markedTraces are traces, behind whose lists' lengths devices stand.
func markedTraces() []api.Trace {
	l := anyTraces()
	for i, x := range l {
		long := append(slices.Clone(x.Devices), 0, 1, 2, i)
		l[i].Devices = long[:len(x.Devices)]
	}
	return l
}

// behindTraces are traces whose lists go on to the end of their memory.
func behindTraces(l []api.Trace) []api.Trace {
	l = slices.Clone(l)
	for i, x := range l {
		l[i].Devices = x.Devices[:cap(x.Devices)]
	}
	return l
}

// twins are traces alike, with lists of their own.
func twins(l []api.Trace) []api.Trace {
	l = slices.Clone(l)
	for i, x := range l {
		l[i].Devices = slices.Clone(x.Devices)
	}
	return l
}

// sameNetwork tells list by list whether two networks are alike.
func sameNetwork(x, y api.Network) bool {
	return slices.Equal(x.T.Ports, y.T.Ports) && slices.Equal(x.T.Links, y.T.Links) && slices.Equal(x.Rules, y.Rules)
}

// sameTraces tells whether traces are alike, one by one.
func sameTraces(x, y []api.Trace) bool {
	return slices.EqualFunc(x, y, func(t, u api.Trace) bool { return alike(broken(0, 0, t), broken(0, 0, u)) })
}

// spoil writes over all of a network's memory.
func spoil(n api.Network) {
	n = behind(n)
	for i := range n.T.Ports {
		n.T.Ports[i] = 77
	}
	for i := range n.T.Links {
		n.T.Links[i] = ln(7, 7, 7, 7)
	}
	for i := range n.Rules {
		n.Rules[i] = id(7, no(api.Deny, 7, rg(77, 777), 7))
	}
}

// few are some of the networks, each with another one; every second time that has the same topology.
func few(l []api.Network) [][2]api.Network {
	var some [][2]api.Network
	for i, n := range l {
		other := twin(n)
		other.Rules = other.Rules[:len(other.Rules)/2]
		if i%2 == 0 {
			other = l[(i+1)%len(l)]
		}
		some = append(some, [2]api.Network{n, other})
	}
	return some
}

// P1: no call panics at networks that are not right, at any queries, traces and verdicts, and each ends; beside an error there is nothing.
func TestAnyArguments(t *testing.T) {
	for _, p := range few(append(wrongs(), rights()...)) {
		w := askAll(p[0], p[1])
		for i, e := range w.errors {
			if e != api.OK && (e != api.ErrQuery || !alike(w.verdicts[i], api.Verdict{})) {
				t.Fatalf("%v: beside %v: %+v", p[0], e, w.verdicts[i])
			}
		}
		for _, q := range anyQueries(p[0]) {
			if v, e := Run(p[0], p[1], q); (e != api.OK || v.Holds) && len(v.Trace.Devices) != 0 {
				t.Fatalf("%v: %+v: %+v, %v", p[0], q, v, e)
			}
		}
	}
}

// Rule 4: no call writes into a list that it is handed, or looks behind its length, be the network right or not.
func TestListsStay(t *testing.T) {
	for _, p := range few(append(rights(), wrongs()...)) {
		x, y, traces := marked(p[0]), marked(p[1]), markedTraces()
		one, other, was := twin(behind(x)), twin(behind(y)), twins(behindTraces(traces))
		stays := func() {
			if !sameNetwork(behind(x), one) || !sameNetwork(behind(y), other) || !sameTraces(behindTraces(traces), was) {
				t.Fatalf("what was handed in is %v, %v, %v", behind(x), behind(y), traces)
			}
		}
		if len(x.T.Ports) > 20 || len(x.Rules) > 200 {
			// Where lists are so long, it is enough to look once.
			defer stays()
			stays = nil
		}
		if !askThen(x, y, traces, stays).same(askAll(twin(p[0]), twin(p[1]))) {
			t.Fatalf("looked behind the lists of %v, or %v", p[0], p[1])
		}
	}
}

// Rule 4: no two lists that are answered share memory: all that is written into one, to the end of its memory, is in no other one, nor in what was handed in.
func TestAnswersAreNew(t *testing.T) {
	for seed, n := range rights() {
		mix := mixer(seed)
		x, y, traces := twin(n), mix.other(n), anyTraces()
		m := twin(y)
		one := askThen(x, y, traces, nil)
		was := one.copied()
		for i, l := range one.lists {
			l = l[:cap(l)]
			for k := range l {
				l[k] = -100 - i
			}
		}
		for i, l := range one.lists {
			if slices.ContainsFunc(l[:cap(l)], func(d int) bool { return d != -100-i }) {
				t.Fatalf("what is written into an answer is in another one, %v", l)
			}
		}
		if !sameNetwork(x, n) || !sameNetwork(y, m) || !sameTraces(traces, anyTraces()) {
			t.Fatal("what is written into an answer is in what was handed in")
		}
		if !askAll(x, y).same(was) {
			t.Fatal("asked again: other answers")
		}
	}
}

// P2, rule 4: nothing is kept of what is handed in: what is written into it changes no answer that was given, and counts the next time.
func TestNothingKept(t *testing.T) {
	for seed, n := range rights() {
		mix := mixer(seed)
		x, y, traces := marked(n), marked(mix.other(n)), markedTraces()
		m := twin(y)
		one := askThen(x, y, traces, nil)
		was := one.copied()
		spoil(x)
		spoil(y)
		for _, u := range traces {
			for i := range u.Devices[:cap(u.Devices)] {
				u.Devices[:cap(u.Devices)][i] = 77
			}
		}
		askAll(x, y)
		if !one.same(was) || !askAll(n, m).same(was) {
			t.Fatalf("an answer has changed, of %v", n)
		}
	}
	n := ordinary()
	want(t, "as it was", n, n, isolated(0, 1, all()), broken(0, 100, out(3, 0, 1)))
	n.Rules[0].R = rg(110, 149)
	want(t, "as it is now", n, n, isolated(0, 1, all()), broken(0, 110, tr(api.Dropped, 0, 1)))
	n.T.Links = n.T.Links[1:]
	want(t, "as it is now", n, n, isolated(0, 1, all()), holds())
	wantRefused(t, "as it is now", n, ordinary(), same(all()))
	n.T.Ports = n.T.Ports[:4]
	wantWrong(t, "as it is now", n, reach(4, 4, all()))
}

// P2: several may ask at once, of the same networks.
func TestAskedAtOnce(t *testing.T) {
	x, y := ordinary(), changed(func(n *api.Network) { n.Rules[8].Port = 1 })
	want := askAll(x, y)
	var g sync.WaitGroup
	for range 8 {
		g.Go(func() {
			for range 2 {
				if !askAll(x, y).same(want) {
					t.Error("asked at once: other answers")
				}
			}
		})
	}
	g.Wait()
}
