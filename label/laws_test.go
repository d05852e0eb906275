package label

import (
	"testing"

	"waystone/api"
	"waystone/fate"
)

// tells is the label that the chapter's words give what becomes of a packet.
func tells(f api.Fate, p api.Port) int {
	return map[api.Fate]int{api.Denied: -3, api.Dropped: -2, api.Lost: -1, api.Delivered: p.Port, api.Looped: p.Port}[f]
}

// wantFares asks of each atom's label, at each device, whether that becomes of its addresses: the first, the last, and some between, all of few.
func wantFares(t *testing.T, l *Labels) {
	t.Helper()
	n := l.Network()
	for i := range l.Atoms() {
		r, _ := l.Atom(i)
		some := []uint32{r.To, r.To - (r.To-r.From)/3, r.From + (r.To-r.From)/2}
		for k := range min(r.To-r.From, 40) + 1 {
			some = append(some, r.From+k)
		}
		for d := range n.T.Ports {
			x, is := l.At(d, i)
			for _, a := range some {
				if want := tells(fate.Step(n, d, a)); x != want || !is {
					t.Fatalf("%v: At(%d, %d): %d, %v, of %v; %d is %d", n, d, i, x, is, r, a, want)
				}
			}
		}
	}
}

// P10.2 (as packets fare): over drawn networks, what an atom's label tells becomes of each of its addresses; each address is in one atom.
func TestFares(t *testing.T) {
	for _, n := range append(rights(), drawn(150)...) {
		l := mustOf(t, n)
		wantFares(t, l)
		next := uint64(0)
		for i := range l.Atoms() {
			r, _ := l.Atom(i)
			if uint64(r.From) != next || r.From > r.To {
				t.Fatalf("%v: atom %d is %v, behind %d", n, i, r, next)
			}
			next = uint64(r.To) + 1
		}
		if next != last+1 {
			t.Fatalf("%v: the atoms end ahead of %d", n, next)
		}
	}
}

// P10.2: of labels that came by inserts and deletes, too.
func TestFaresStepByStep(t *testing.T) {
	for seed, n := range drawn(20) {
		mix := mixer(seed)
		l := mustOf(t, with(n, nil))
		for _, r := range mix.mixed(n.Rules) {
			l = mustInsert(t, l, r)
		}
		for _, r := range mix.mixed(n.Rules) {
			wantFares(t, l)
			l = mustDelete(t, l, r.ID)
		}
		wantFares(t, l)
	}
}

// P10.2: who goes from device to device by labels and links comes by each packet's trace.
func TestTraceByLabels(t *testing.T) {
	for _, n := range append(rights(), drawn(40)...) {
		l := mustOf(t, n)
		joined := map[api.Port]int{}
		for _, k := range n.T.Links {
			joined[k.A], joined[k.B] = k.B.Device, k.A.Device
		}
		for i := range l.Atoms() {
			r, _ := l.Atom(i)
			for first := range n.T.Ports {
				x, _ := fate.Trace(n, first, r.To)
				d := first
				for k, want := range x.Devices {
					if d != want {
						t.Fatalf("%v: %d from %d: comes to %d; %v", n, r.To, first, d, x)
					}
					told, _ := l.At(d, i)
					to, is := joined[api.Port{Device: d, Port: told}]
					if ends := told < 0 || !is; ends != (k == len(x.Devices)-1 && x.Fate != api.Looped) {
						t.Fatalf("%v: %d from %d: %d at %d; %v", n, r.To, first, told, d, x)
					}
					d = to
				}
			}
		}
	}
}

// wantAlike asks whether two labels tell the same, call by call.
func wantAlike(t *testing.T, what string, x, y *Labels) {
	t.Helper()
	if !sameNetwork(x.Network(), y.Network()) || x.Atoms() != y.Atoms() {
		t.Fatalf("%s: %v, %d; %v, %d", what, x.Network(), x.Atoms(), y.Network(), y.Atoms())
	}
	for i := -1; i <= x.Atoms(); i++ {
		r, is := y.Atom(i)
		wantAtom(t, what, x, i, r, is)
		for d := -1; d <= api.MaxDevices; d++ {
			want, has := y.At(d, i)
			wantAt(t, what, x, d, i, want, has)
		}
	}
}

// P10.3 (step by step): drawn inserts and deletes, some of them refused: behind each the labels are those of the network at once.
func TestStepByStep(t *testing.T) {
	for seed := range 40 {
		mix := mixer(seed)
		n := api.Network{T: mix.topology()}
		l := mustOf(t, n)
		for range 100 {
			i := 1 + mix.below(50)
			r := id(i, mix.rule(n.T))
			has := false
			for _, x := range n.Rules {
				has = has || x.ID == i
			}
			switch insert := mix.below(5) < 3; {
			case insert && has:
				wantRefused(t, l, n, r, api.ErrTwice)
			case insert && len(n.Rules) == api.MaxRules:
				wantRefused(t, l, n, r, api.ErrRule)
			case insert:
				l, n = mustInsert(t, l, r), more(n, r)
			case has:
				l, n = mustDelete(t, l, i), less(n, i)
			default:
				wantNone(t, l, n, i)
			}
			wantAlike(t, "step by step", l, mustOf(t, n))
		}
		wantLabels(t, "behind all steps", l, n)
	}
}

// P10.3: any order of the same inserts, with others between that are deleted again, gives the same labels.
func TestAnyOrder(t *testing.T) {
	for seed, n := range append(rights(), drawn(20)...) {
		mix := mixer(seed)
		at := mustOf(t, n)
		for range 3 {
			l := mustOf(t, with(n, nil))
			for _, r := range mix.mixed(n.Rules) {
				other := id(api.MaxID-mix.below(9), mix.rule(n.T))
				l = mustInsert(t, mustDelete(t, mustInsert(t, l, other), other.ID), r)
			}
			wantAlike(t, "any order", l, at)
		}
	}
}

// P10.3: one rule inserted and deleted, or deleted and inserted, leaves the labels as they were.
func TestThereAndBack(t *testing.T) {
	for seed, n := range append(rights(), drawn(20)...) {
		mix := mixer(seed)
		l := mustOf(t, n)
		for _, r := range n.Rules {
			wantAlike(t, "deleted and inserted", mustInsert(t, mustDelete(t, l, r.ID), r), l)
		}
		if len(n.Rules) == api.MaxRules {
			continue
		}
		for range 20 {
			r := id(api.MaxID-mix.below(9), mix.rule(n.T))
			wantAlike(t, "inserted and deleted", mustDelete(t, mustInsert(t, l, r), r.ID), l)
		}
	}
}
