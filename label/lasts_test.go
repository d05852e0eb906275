package label

import (
	"math"
	"slices"
	"sync"
	"testing"

	"waystone/api"
)

// marks stand behind the lengths of a network's lists: a call that looked there would find other ports, links and rules.
func marks() api.Network {
	return net(top([]api.Link{ln(0, 0, 0, 1), ln(1, 3, 2, 1), ln(-7, -7, -7, -7)}, 4, 0, -7), no(api.Deny, 0, all(), 1024), no(api.Drop, 0, all(), 1024), no(-1, -1, rg(1, 0), -1))
}

// marked is a copy with marks behind its lists' lengths.
func marked(n api.Network) api.Network {
	m := marks()
	ports := append(slices.Clone(n.T.Ports), m.T.Ports...)
	links := append(slices.Clone(n.T.Links), m.T.Links...)
	rules := append(slices.Clone(n.Rules), m.Rules...)
	return api.Network{T: top(links[:len(n.T.Links)], ports[:len(n.T.Ports)]...), Rules: rules[:len(n.Rules)]}
}

// behind is a network whose lists go on to the end of their memory.
func behind(n api.Network) api.Network {
	return api.Network{T: top(n.T.Links[:cap(n.T.Links)], n.T.Ports[:cap(n.T.Ports)]...), Rules: n.Rules[:cap(n.Rules)]}
}

// spoil writes over all of a network's memory.
func spoil(n api.Network) {
	n = behind(n)
	for i := range n.T.Ports {
		n.T.Ports[i] = 77
	}
	for i := range n.T.Links {
		n.T.Links[i] = ln(7, 7, 7, 7)
	}
	for i := range n.Rules {
		n.Rules[i] = id(7, no(api.Deny, 7, all(), 7))
	}
}

// wrongs are networks that are not right.
func wrongs() []api.Network {
	l := []api.Network{{}, {Rules: ordinary().Rules}, {T: top(nil, 2), Rules: []api.Rule{{Device: math.MinInt, R: all()}}}, net(top(nil, slices.Repeat([]int{4}, 100000)...), by(0, 1, all(), 5))}
	for _, r := range wrongOnes(ordinary().Rules[0]) {
		l = append(l, with(ordinary(), []api.Rule{r}))
	}
	n := ordinary()
	n.T.Links = append(n.T.Links, ln(0, 0, 9, 9), ln(9, 9, -1, -1), ln(-1, -1, math.MaxInt, math.MinInt), ln(4, 0, 4, 0))
	n.Rules = slices.Repeat(n.Rules, 1000)
	return append(l, n)
}

// Rule 8, L2: every call of nil labels, at any arguments.
func TestNil(t *testing.T) {
	var l *Labels
	if n := l.Network(); len(n.T.Ports) != 0 || len(n.T.Links) != 0 || len(n.Rules) != 0 || l.Atoms() != 0 {
		t.Errorf("nil: %v, %d", n, l.Atoms())
	}
	numbers := append(beyond(1), 0, 3)
	for _, i := range numbers {
		wantAtom(t, "nil", l, i, api.Range{}, false)
		for _, k := range numbers {
			wantAt(t, "nil", l, i, k, 0, false)
		}
		if x, e := l.Delete(i); x != nil || e != api.ErrArg {
			t.Errorf("nil: Delete(%d): %v, %v", i, x, e)
		}
		for _, r := range append(wrongOnes(ordinary().Rules[0]), ordinary().Rules...) {
			if x, e := l.Insert(id(i, r)); x != nil || e != api.ErrArg {
				t.Errorf("nil: Insert(%v): %v, %v", r, x, e)
			}
		}
	}
}

// L2: the labels at hand stay, behind each Insert and Delete, answered or refused; what is inserted and deleted once more comes out as it did.
func TestAtHandStay(t *testing.T) {
	for seed, n := range rights() {
		mix := mixer(seed)
		l := mustOf(t, n)
		for range 10 {
			r := id(1+mix.below(250), mix.rule(n.T))
			one, e := l.Insert(r)
			two, f := l.Delete(r.ID)
			wantLabels(t, "at hand", l, n)
			again, g := l.Insert(r)
			once, h := l.Delete(r.ID)
			if e != g || f != h || (e == api.OK) != (one != nil) || (f == api.OK) != (two != nil) {
				t.Fatalf("%v: %v: %v, %v; once more %v, %v", n, r, e, f, g, h)
			}
			wantAlike(t, "inserted once more", again, one)
			wantAlike(t, "deleted once more", once, two)
			if e == api.OK {
				wantLabels(t, "inserted", one, more(n, r))
				wantLabels(t, "at hand behind it", mustDelete(t, one, r.ID), n)
				wantLabels(t, "inserted, asked again", one, more(n, r))
			}
		}
		wantLabels(t, "at the end", l, n)
	}
}

// L2, P2: of many labels made one of the other, each tells at the end what it told at first.
func TestAllLast(t *testing.T) {
	mix := mixer(3)
	n := api.Network{T: ordinary().T}
	nets, made := []api.Network{n}, []*Labels{mustOf(t, n)}
	for step := range 400 {
		from := mix.below(len(made))
		if step%3 > 0 {
			from = len(made) - 1 // so that much is made of each
		}
		l, n := made[from], nets[from]
		if r := id(1+mix.below(60), mix.rule(n.T)); mix.below(3) > 0 {
			if x, e := l.Insert(r); e == api.OK {
				nets, made = append(nets, more(n, r)), append(made, x)
			}
		} else if x, e := l.Delete(r.ID); e == api.OK {
			nets, made = append(nets, less(n, r.ID)), append(made, x)
		}
		wantLabels(t, "just left", l, n)
	}
	if len(made) < 200 {
		t.Errorf("but %d", len(made))
	}
	for i, l := range made {
		wantLabels(t, "at the end", l, nets[i])
	}
}

// Rule 4: Of writes into no list, and looks behind none's length, be the network right or not.
func TestOfLeavesLists(t *testing.T) {
	for _, n := range append(rights(), wrongs()...) {
		x := marked(n)
		was := twin(behind(x))
		l, e := Of(x)
		k, f := Of(twin(n))
		if e != f || (e == api.OK) != (l != nil) {
			t.Fatalf("%v, with marks behind it %v", f, e)
		}
		wantAlike(t, "looked behind", l, k)
		if l != nil {
			l.Insert(id(5, by(0, 0, all(), 5)))
			l.Delete(10)
		}
		if !sameNetwork(behind(x), was) {
			t.Fatalf("what was handed in is %v, not %v", behind(x), was)
		}
	}
}

// Rule 4: labels keep none of the lists that Of was handed: what is written into these changes no answer.
func TestOfKeepsNothing(t *testing.T) {
	for _, n := range rights() {
		x := marked(n)
		l := mustOf(t, x)
		k := mustInsert(t, mustOf(t, with(x, nil)), id(5, by(0, 0, all(), 5)))
		spoil(x)
		wantLabels(t, "spoilt", l, n)
		wantLabels(t, "spoilt, inserted", k, with(n, []api.Rule{id(5, by(0, 0, all(), 5))}))
		wantLabels(t, "spoilt, deleted", mustDelete(t, k, 5), with(n, nil))
	}
}

// Rule 4: Network answers new memory each time: what is written into it, or put behind it, is nobody else's.
func TestNetworkIsNew(t *testing.T) {
	for _, n := range rights() {
		l := mustOf(t, n)
		for range 2 {
			one, other := l.Network(), l.Network()
			_ = append(one.Rules, id(7, by(0, 0, all(), 7)))
			spoil(one)
			if !sameNetwork(other, n) {
				t.Fatalf("the other one is %v, not %v", other, n)
			}
			wantLabels(t, "spoilt", l, n)
			for _, r := range n.Rules {
				k := mustDelete(t, l, r.ID)
				spoil(k.Network())
				spoil(l.Network())
				wantLabels(t, "spoilt, deleted", k, less(n, r.ID))
				wantLabels(t, "spoilt, inserted", mustInsert(t, k, r), n)
			}
		}
	}
}

// P1: no call panics at any arguments, and each ends; nor does any of the zero value, which no call gives.
func TestAnyArguments(t *testing.T) {
	for _, n := range wrongs() {
		wantWrong(t, "any", n)
	}
	made := []*Labels{nil, {}}
	for _, n := range rights() {
		made = append(made, mustOf(t, n))
	}
	for _, l := range made {
		l.Network()
		l.Atoms()
		for _, i := range append(beyond(8), 0, 1, 7, 10, 20) {
			l.Atom(i)
			for _, k := range beyond(17) {
				l.At(i, k)
				l.At(k, i)
			}
			l.Delete(i)
			for _, r := range append(wrongOnes(ordinary().Rules[0]), ordinary().Rules[0], api.Rule{}) {
				l.Insert(id(i, r))
				l.Insert(r)
			}
		}
	}
}

// P2: several may ask, insert and delete at once, of the same labels.
func TestAtOnce(t *testing.T) {
	n := ordinary()
	l := mustOf(t, n)
	var g sync.WaitGroup
	for i := range 8 {
		g.Go(func() {
			for k := range 20 {
				r := id(1000+i, by(0, 0, rg(uint32(k), 300), 9))
				x, e := l.Insert(r)
				y, f := l.Delete(10 + 10*i)
				if e != api.OK || f != api.OK {
					t.Errorf("at once: %v, %v", e, f)
					return
				}
				if !sameNetwork(x.Network(), more(n, r)) || !sameNetwork(y.Network(), less(n, 10+10*i)) || !sameNetwork(l.Network(), n) || l.Atoms() != 16 {
					t.Error("at once: other answers")
				}
			}
		})
	}
	g.Wait()
	wantLabels(t, "behind all", l, n)
}

// P10.1 to P10.3: any network at all, and any inserts and deletes, made of bytes.
func FuzzLabels(f *testing.F) {
	f.Add([]byte{2, 2, 1}, []byte{0, 1, 1, 0}, []byte{1, 0, 1, 0, 0, 9, 1, 2, 1, 1, 0, 5, 20, 0, 3, 1, 1, 3, 7, 7, 0, 130, 0, 0, 0, 0, 0, 0})
	f.Add([]byte{4}, []byte{0, 0, 0, 1}, []byte{9, 0, 9, 2, 0, 255, 0, 8, 0, 8, 3, 0, 255, 0, 9, 0, 1, 0, 0, 0, 3, 136, 0, 0, 0, 0, 0, 0, 7, 9, 1, 0, 9, 3, 0})
	f.Add([]byte{1, 0, 5}, []byte{0, 0, 9, 0}, []byte{0, 1, 0, 0, 9, 0, 9})
	f.Fuzz(func(t *testing.T, ports, links, steps []byte) {
		n := api.Network{}
		for _, p := range ports {
			n.T.Ports = append(n.T.Ports, int(int8(p)))
		}
		for ; len(links) >= 4; links = links[4:] {
			n.T.Links = append(n.T.Links, ln(int(int8(links[0])), int(int8(links[1])), int(int8(links[2])), int(int8(links[3]))))
		}
		l, e := Of(n)
		for ; len(steps) >= 7 && e == api.OK; steps = steps[7:] {
			if i := int(steps[0]) - 128; i >= 0 {
				if x, e := l.Delete(i); e == api.OK {
					l, n = x, less(n, i)
				}
				continue
			}
			r := api.Rule{ID: int(steps[0]), Device: int(int8(steps[1])), Prio: int(int8(steps[2])), Kind: api.RuleKind(int8(steps[3])), R: rg(uint32(steps[4])<<24, uint32(steps[5])<<24+1<<24-1), Port: int(int8(steps[6]))}
			if x, e := l.Insert(r); e == api.OK {
				l, n = x, more(n, r)
			}
		}
		if e != api.OK {
			wantWrong(t, "any", n)
			return
		}
		wantLabels(t, "any", l, n)
		wantFares(t, l)
		wantAlike(t, "any", l, mustOf(t, n))
	})
}
