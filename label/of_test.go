package label

import (
	"math"
	"slices"
	"testing"

	"waystone/api"
)

// wantWrong asks Of a network that is not right.
func wantWrong(t *testing.T, what string, n api.Network) {
	t.Helper()
	if l, e := Of(n); l != nil || e != api.ErrRule {
		t.Errorf("%s: Of(%v): %v, %v", what, n, l, e)
	}
}

// P10.1, L1: the least networks, an ordinary one, the greatest, and drawn ones.
func TestOf(t *testing.T) {
	for _, n := range append(rights(), drawn(200)...) {
		wantLabels(t, "Of", mustOf(t, n), n)
	}
}

// P10.1, L1: the network of three devices in a row of the chapters' examples, device by device, written out.
func TestOfWrittenOut(t *testing.T) {
	n := net(top([]api.Link{ln(0, 1, 1, 0), ln(1, 1, 2, 0)}, 2, 3, 2), by(0, 1, rg(0, 99), 0), by(1, 1, rg(0, 49), 0), by(1, 0, rg(50, 59), 0), by(2, 1, rg(0, 29), 0), no(api.Deny, 2, rg(20, 24), 0), no(api.Drop, 1, rg(60, 69), 0), by(1, 2, rg(95, last), 0))
	atoms := []api.Range{rg(0, 19), rg(20, 24), rg(25, 29), rg(30, 49), rg(50, 59), rg(60, 69), rg(70, 94), rg(95, 99), rg(100, last)}
	told := [][]int{{1, 1, 1, 1, 1, 1, 1, 1, -1}, {1, 1, 1, 1, 0, -2, -1, 2, 2}, {1, -3, 1, -1, -1, -1, -1, -1, -1}}
	l := mustOf(t, n)
	if l.Atoms() != 9 {
		t.Errorf("%d atoms", l.Atoms())
	}
	for i, atom := range atoms {
		wantAtom(t, "written out", l, i, atom, true)
		for d := range 3 {
			wantAt(t, "written out", l, d, i, told[d][i], true)
		}
	}
}

// P10.1, L1: without rules all addresses are one atom, and lost at each device.
func TestOfWithoutRules(t *testing.T) {
	for _, n := range rights() {
		for _, rules := range [][]api.Rule{nil, {}} {
			n.Rules = rules
			l := mustOf(t, n)
			wantLabels(t, "without rules", l, n)
			if r, is := l.Atom(0); l.Atoms() != 1 || r != all() || !is || len(l.Network().Rules) != 0 {
				t.Errorf("%v: %d atoms, %v, %v", n, l.Atoms(), r, is)
			}
			for d := range n.T.Ports {
				wantAt(t, "without rules", l, d, 0, -1, true)
			}
		}
	}
}

// P10.1, L1: as many devices, links and rules as there may be, with as many atoms as these can make.
func TestOfMost(t *testing.T) {
	n := most()
	for i := range n.Rules {
		n.Rules[i].R = rg(uint32(1+2*i), last-1-uint32(2*i))
	}
	l := mustOf(t, n)
	wantLabels(t, "most", l, n)
	if l.Atoms() != 2*api.MaxRules+1 {
		t.Errorf("%d atoms", l.Atoms())
	}
	wantAtom(t, "most", l, 0, rg(0, 0), true)
	wantAtom(t, "most", l, 2*api.MaxRules, rg(last, last), true)
	for i := range n.Rules {
		n.Rules[i].ID = api.MaxID - api.MaxRules + 1 + i
		n.Rules[i].Prio = api.MaxPrio - i%2
		n.Rules[i].R = all()
	}
	wantLabels(t, "most, of all addresses", mustOf(t, n), n)
}

// P10.1, L1: the atoms of each kind of range, and of each way in which two lie, with the labels that they have.
func TestOfRanges(t *testing.T) {
	for _, c := range []struct {
		name string
		l    []api.Range
		want []api.Range
		told []int // where the first range is forwarded by port 3, and the second one dropped ahead of that
	}{
		{"all", []api.Range{all()}, []api.Range{all()}, []int{3}},
		{"all twice", []api.Range{all(), all()}, []api.Range{all()}, []int{-2}},
		{"one address", []api.Range{rg(7, 7)}, []api.Range{rg(0, 6), rg(7, 7), rg(8, last)}, []int{-1, 3, -1}},
		{"the first address", []api.Range{rg(0, 0)}, []api.Range{rg(0, 0), rg(1, last)}, []int{3, -1}},
		{"the last address", []api.Range{rg(last, last)}, []api.Range{rg(0, last-1), rg(last, last)}, []int{-1, 3}},
		{"from 0", []api.Range{rg(0, 6)}, []api.Range{rg(0, 6), rg(7, last)}, []int{3, -1}},
		{"to the last", []api.Range{rg(6, last)}, []api.Range{rg(0, 5), rg(6, last)}, []int{-1, 3}},
		{"all but the ends", []api.Range{rg(1, last-1)}, []api.Range{rg(0, 0), rg(1, last-1), rg(last, last)}, []int{-1, 3, -1}},
		{"both ends", []api.Range{rg(0, 0), rg(last, last)}, []api.Range{rg(0, 0), rg(1, last-1), rg(last, last)}, []int{3, -1, -2}},
		{"the same", []api.Range{rg(2, 8), rg(2, 8)}, []api.Range{rg(0, 1), rg(2, 8), rg(9, last)}, []int{-1, -2, -1}},
		{"within", []api.Range{rg(2, 8), rg(4, 6)}, []api.Range{rg(0, 1), rg(2, 3), rg(4, 6), rg(7, 8), rg(9, last)}, []int{-1, 3, -2, 3, -1}},
		{"about", []api.Range{rg(4, 6), rg(2, 8)}, []api.Range{rg(0, 1), rg(2, 3), rg(4, 6), rg(7, 8), rg(9, last)}, []int{-1, -2, -2, -2, -1}},
		{"within all", []api.Range{all(), rg(4, 6)}, []api.Range{rg(0, 3), rg(4, 6), rg(7, last)}, []int{3, -2, 3}},
		{"beside", []api.Range{rg(2, 4), rg(5, 8)}, []api.Range{rg(0, 1), rg(2, 4), rg(5, 8), rg(9, last)}, []int{-1, 3, -2, -1}},
		{"beside, all", []api.Range{rg(0, 4), rg(5, last)}, []api.Range{rg(0, 4), rg(5, last)}, []int{3, -2}},
		{"apart", []api.Range{rg(2, 3), rg(6, 8)}, []api.Range{rg(0, 1), rg(2, 3), rg(4, 5), rg(6, 8), rg(9, last)}, []int{-1, 3, -1, -2, -1}},
		{"across", []api.Range{rg(2, 6), rg(4, 8)}, []api.Range{rg(0, 1), rg(2, 3), rg(4, 6), rg(7, 8), rg(9, last)}, []int{-1, 3, -2, -2, -1}},
		{"one in common", []api.Range{rg(2, 5), rg(5, 8)}, []api.Range{rg(0, 1), rg(2, 4), rg(5, 5), rg(6, 8), rg(9, last)}, []int{-1, 3, -2, -2, -1}},
		{"the same From", []api.Range{rg(2, 8), rg(2, 6)}, []api.Range{rg(0, 1), rg(2, 6), rg(7, 8), rg(9, last)}, []int{-1, -2, 3, -1}},
		{"the same To", []api.Range{rg(2, 8), rg(6, 8)}, []api.Range{rg(0, 1), rg(2, 5), rg(6, 8), rg(9, last)}, []int{-1, 3, -2, -1}},
	} {
		n := net(top(nil, 4, 1), by(0, 3, c.l[0], 5))
		if len(c.l) > 1 {
			n.Rules = append(n.Rules, id(20, no(api.Drop, 0, c.l[1], 6)))
		}
		l := mustOf(t, n)
		wantLabels(t, c.name, l, n)
		if l.Atoms() != len(c.want) {
			t.Fatalf("%s: %d atoms", c.name, l.Atoms())
		}
		for i, atom := range c.want {
			wantAtom(t, c.name, l, i, atom, true)
			wantAt(t, c.name, l, 0, i, c.told[i], true)
			wantAt(t, c.name, l, 1, i, -1, true) // another device's rules part atoms, and do no more
		}
	}
}

// P10.1, L1: every row of three ranges over addresses at both ends.
func TestOfFewRanges(t *testing.T) {
	var some []api.Range
	for _, from := range []uint32{0, 1, 2, last - 1, last} {
		for _, to := range []uint32{0, 1, 2, last - 1, last} {
			if from <= to {
				some = append(some, rg(from, to))
			}
		}
	}
	for _, a := range some {
		for _, b := range some {
			for _, c := range some {
				n := net(top(nil, 2), by(0, 1, a, 5), no(api.Deny, 0, b, 5), no(api.Drop, 0, c, 6))
				wantLabels(t, "few ranges", mustOf(t, n), n)
			}
		}
	}
}

// P10.1, L1: a network whose topology is not right, be there rules or not.
func TestOfWrongTopology(t *testing.T) {
	full := most().T
	for _, x := range []api.Topology{
		{}, top([]api.Link{}, []int{}...), top(nil, 1, 1, 1, 1, 1, 1, 1, 1, 1), top(append(slices.Clone(full.Links), full.Links[0]), full.Ports...),
		top(nil, 0), top(nil, -1), top(nil, 5), top(nil, 2, 2, 0), top(nil, 2, 2, math.MaxInt), top(nil, math.MinInt, 2),
		top([]api.Link{ln(0, 0, 2, 0)}, 2, 2), top([]api.Link{ln(-1, 0, 1, 0)}, 2, 2), top([]api.Link{ln(0, 2, 1, 0)}, 2, 2), top([]api.Link{ln(0, 0, 1, -1)}, 2, 2),
		top([]api.Link{ln(0, 0, 1, 0), ln(1, 1, 0, 0)}, 2, 2), top([]api.Link{ln(0, 0, 1, 0), ln(0, 1, 1, 0)}, 2, 2), top([]api.Link{ln(0, 0, 0, 0)}, 2, 2),
	} {
		wantWrong(t, "a topology that is not right", net(x))
		wantWrong(t, "a topology that is not right, and rules", net(x, by(0, 0, all(), 5), no(api.Deny, 0, rg(3, 9), 7)))
	}
}

// wrongOnes are a right rule that fits, not right in each of its fields; its ID is as it was, but where that is what is not right.
func wrongOnes(r api.Rule) []api.Rule {
	var l []api.Rule
	for _, do := range []func(r *api.Rule){
		func(r *api.Rule) { r.ID = 0 },
		func(r *api.Rule) { r.ID = -r.ID },
		func(r *api.Rule) { r.ID = api.MaxID + 1 },
		func(r *api.Rule) { r.ID = math.MinInt },
		func(r *api.Rule) { r.ID = math.MaxInt },
		func(r *api.Rule) { r.Device = -1 },
		func(r *api.Rule) { r.Device = api.MaxDevices },
		func(r *api.Rule) { r.Device = math.MaxInt },
		func(r *api.Rule) { r.Prio = -1 },
		func(r *api.Rule) { r.Prio = api.MaxPrio + 1 },
		func(r *api.Rule) { r.Kind = -1 },
		func(r *api.Rule) { r.Kind = api.Deny + 1 },
		func(r *api.Rule) { r.R = rg(5, 4) },
		func(r *api.Rule) { r.R = rg(last, 0) },
		func(r *api.Rule) { r.Port = -1 },
		func(r *api.Rule) { r.Port = api.MaxPorts },
		func(r *api.Rule) { r.Port = math.MinInt },
	} {
		x := r
		do(&x)
		l = append(l, x)
	}
	if r.Kind != api.Forward { // it fits by any port, but is right by 0 alone
		r.Port = 1
		l = append(l, r)
	}
	return l
}

// unfitting are right rules, but of a device, or by a port, that a topology has not.
func unfitting(t api.Topology) []api.Rule {
	var l []api.Rule
	for d := range api.MaxDevices {
		many := 0
		if d < len(t.Ports) {
			many = t.Ports[d]
		} else {
			l = append(l, no(api.Drop, d, all(), 5), no(api.Permit, d, rg(3, 9), 5), no(api.Deny, d, rg(0, 0), 5))
		}
		for p := many; p < api.MaxPorts; p++ {
			l = append(l, by(d, p, rg(3, 9), 5))
		}
	}
	return l
}

// P10.1, L1: a network of which one rule is not right, wherever that stands.
func TestOfWrongRule(t *testing.T) {
	for i, r := range ordinary().Rules {
		for _, x := range wrongOnes(r) {
			n := ordinary()
			n.Rules[i] = x
			wantWrong(t, "a rule that is not right", n)
			n.Rules = n.Rules[i : i+1]
			wantWrong(t, "that rule alone", n)
		}
	}
}

// P10.1, L1: a network of right rules that are not right as a list: too many, of one ID, or not rising.
func TestOfWrongList(t *testing.T) {
	for _, many := range []int{41, 42, 1000} {
		wantWrong(t, "too many", net(top(nil, 1), slices.Repeat([]api.Rule{no(api.Drop, 0, rg(3, 9), 5)}, many)...))
	}
	for i := range len(ordinary().Rules) - 1 {
		n := ordinary()
		n.Rules[i+1].ID = n.Rules[i].ID
		wantWrong(t, "one ID twice", n)
		n = ordinary()
		n.Rules[i], n.Rules[i+1] = n.Rules[i+1], n.Rules[i]
		wantWrong(t, "not rising", n)
	}
}

// P10.1, L1: a network with one right rule that does not fit, wherever that stands.
func TestOfUnfitting(t *testing.T) {
	for i := range ordinary().Rules {
		for _, x := range unfitting(ordinary().T) {
			n := ordinary()
			n.Rules[i] = id(n.Rules[i].ID, x)
			wantWrong(t, "a rule that does not fit", n)
		}
	}
}
