package rule

import (
	"math"
	"slices"
	"testing"

	"waystone/api"
)

// P7.1, R1: a number of a rule is right between its limits, they among it, of every kind.
func TestRightNumbers(t *testing.T) {
	for _, kind := range kinds() {
		for _, f := range []struct {
			name         string
			field        func(r *api.Rule) *int
			least, great int
		}{
			{"ID", func(r *api.Rule) *int { return &r.ID }, 1, 1 << 20},
			{"Device", func(r *api.Rule) *int { return &r.Device }, 0, 7},
			{"Prio", func(r *api.Rule) *int { return &r.Prio }, 0, 1024},
		} {
			for _, n := range []int{math.MinInt, -1 << 32, -1, 0, 1, 2, 6, 7, 8, 9, 1023, 1024, 1025, 1<<20 - 1, 1 << 20, 1<<20 + 1, 1 << 32, math.MaxInt} {
				r := ordinary(kind)
				*f.field(&r) = n
				if want := f.least <= n && n <= f.great; Right(r) != want {
					t.Errorf("%s %d of %v: %v", f.name, n, r, !want)
				}
			}
		}
	}
}

// P7.1, R1: there are four kinds.
func TestRightKinds(t *testing.T) {
	for _, kind := range kinds() {
		if !Right(ordinary(kind)) {
			t.Errorf("kind %d is not right", kind)
		}
	}
	for _, kind := range []api.RuleKind{math.MinInt, -4, -1, 4, 5, 1 << 32, math.MaxInt} {
		for _, port := range []int{0, 1, 3} {
			r := ordinary(api.Drop)
			r.Kind, r.Port = kind, port
			if Right(r) {
				t.Errorf("kind %d, port %d is right", kind, port)
			}
		}
	}
}

// P7.1, R1: a port is 0 to 3 of Forward, and 0 of each other kind.
func TestRightPorts(t *testing.T) {
	for _, kind := range kinds() {
		for _, port := range []int{math.MinInt, -1 << 32, -2, -1, 0, 1, 2, 3, 4, 5, 1 << 32, math.MaxInt} {
			r := ordinary(kind)
			r.Port = port
			want := port == 0 || kind == api.Forward && port >= 1 && port <= 3
			if Right(r) != want {
				t.Errorf("port %d of kind %d: %v", port, kind, !want)
			}
		}
	}
}

// P7.1, R1: a range is right if From is not above To.
func TestRightRanges(t *testing.T) {
	ends := []uint32{0, 1, 2, 100, 1<<31 - 1, 1 << 31, 1<<31 + 1, last - 1, last}
	for _, kind := range kinds() {
		for _, from := range ends {
			for _, to := range ends {
				r := ordinary(kind)
				r.R = rg(from, to)
				if want := from <= to; Right(r) != want {
					t.Errorf("%v: %v", r, !want)
				}
			}
		}
	}
}

// P7.1, R1: the least rule and the greatest one are right, and the zero one is not; a rule that is wrong in one field is none.
func TestRightWhole(t *testing.T) {
	for _, kind := range kinds() {
		least := api.Rule{ID: 1, Kind: kind}
		great := api.Rule{ID: api.MaxID, Device: api.MaxDevices - 1, Prio: api.MaxPrio, Kind: kind, R: rg(last, last)}
		if kind == api.Forward {
			great.Port = api.MaxPorts - 1
		}
		for _, r := range []api.Rule{least, great} {
			if !Right(r) || !All([]api.Rule{r}) {
				t.Errorf("%v is not right", r)
			}
			for _, w := range wrongTurns() {
				x := r
				w.do(&x)
				if Right(x) || All([]api.Rule{x}) {
					t.Errorf("%s: %v is right", w.name, x)
				}
			}
		}
	}
	if Right(api.Rule{}) || All([]api.Rule{{}}) {
		t.Error("the zero rule is right")
	}
}

// P7.1, R1: no rules are right, and so are as many as may be, but not one more.
func TestAllCounts(t *testing.T) {
	if !All(nil) || !All([]api.Rule{}) {
		t.Error("no rules")
	}
	for n := range 100 {
		if want := n <= 40; All(many(n)) != want {
			t.Errorf("%d rules: %v", n, !want)
		}
	}
	if All(many(100_000)) {
		t.Error("very many rules")
	}
	// What lies behind a list's length is no part of it.
	if !All(many(100)[:40]) {
		t.Error("40 of 100 rules")
	}
}

// P7.1, R1: IDs must rise, by however much, everywhere.
func TestAllRising(t *testing.T) {
	for _, c := range []struct {
		ids  []int
		want bool
	}{
		{[]int{1}, true}, {[]int{1 << 20}, true}, {[]int{1, 2}, true}, {[]int{1, 1 << 20}, true}, {[]int{5, 9, 10, 4000}, true}, {[]int{1<<20 - 1, 1 << 20}, true},
		{[]int{1, 1}, false}, {[]int{2, 1}, false}, {[]int{1 << 20, 1 << 20}, false}, {[]int{1 << 20, 1}, false},
		{[]int{1, 2, 2}, false}, {[]int{1, 1, 2}, false}, {[]int{1, 3, 2}, false}, {[]int{2, 1, 3}, false}, {[]int{3, 2, 1}, false}, {[]int{1, 2, 1}, false}, {[]int{2, 3, 1, 4}, false},
	} {
		for _, kind := range kinds() {
			var l []api.Rule
			for _, id := range c.ids {
				r := ordinary(kind)
				r.ID = id
				l = append(l, r)
			}
			if All(l) != c.want {
				t.Errorf("IDs %v: %v", c.ids, !c.want)
			}
		}
	}
}

// P7.1, R1: two rules that do not rise, at every place of a full list, of whatever devices and Prios.
func TestAllRisingEverywhere(t *testing.T) {
	for i := range 39 {
		l := many(40)
		l[i].ID = l[i+1].ID
		if All(l) {
			t.Errorf("alike at %d", i)
		}
		l = many(40)
		l[i], l[i+1] = l[i+1], l[i]
		if All(l) {
			t.Errorf("falling at %d", i)
		}
		l = many(40)
		l[i].Device, l[i].Prio = 1, 9
		l[i+1].Device, l[i+1].Prio = 2, 1
		if !All(l) {
			t.Errorf("unlike devices at %d", i)
		}
		l[i+1].ID = l[i].ID
		if All(l) {
			t.Errorf("alike, of unlike devices, at %d", i)
		}
	}
}

// P7.1, R1: one rule that is not right, wherever it stands, makes the list wrong.
func TestAllOneWrong(t *testing.T) {
	for _, n := range []int{1, 2, 3, 40} {
		for i := range n {
			for _, w := range wrongTurns() {
				l := many(n)
				w.do(&l[i])
				if All(l) {
					t.Errorf("%s at %d of %d", w.name, i, n)
				}
			}
		}
	}
}

// P7.1, R1: Find tells each rule of a list, and nothing for an ID that none has.
func TestFind(t *testing.T) {
	for _, n := range []int{0, 1, 2, 3, 39, 40} {
		l := many(n)
		for i := range l {
			l[i].ID = 10 + 3*i
			l[i].Prio = 40 - i
		}
		for id := -5; id < 200; id++ {
			wantFound(t, l, id)
		}
		for _, id := range []int{math.MinInt, -1 << 32, 1 << 20, 1<<20 + 1, 1<<32 + 10, math.MaxInt} {
			wantFound(t, l, id)
		}
	}
	l := []api.Rule{ordinary(api.Deny), ordinary(api.Forward)}
	l[0].ID, l[1].ID = 1, api.MaxID
	for _, id := range []int{0, 1, 2, 7, api.MaxID - 1, api.MaxID, api.MaxID + 1} {
		wantFound(t, l, id)
		wantFound(t, nil, id)
		wantFound(t, []api.Rule{}, id)
		wantFound(t, l[:1], id)
	}
}

// wantFound asks Find for the rule with an ID, if the list has one.
func wantFound(t *testing.T, l []api.Rule, id int) {
	t.Helper()
	var want api.Rule
	i := slices.IndexFunc(l, func(r api.Rule) bool { return r.ID == id })
	if i >= 0 {
		want = l[i]
	}
	if r, is := Find(l, id); r != want || is != (i >= 0) {
		t.Fatalf("Find(%v, %d): %v, %v; want %v", l, id, r, is, want)
	}
}

// wantSame asks Same of two lists, both ways round.
func wantSame(t *testing.T, what string, x, y []api.Rule, want bool) {
	t.Helper()
	if Same(x, y) != want || Same(y, x) != want {
		t.Errorf("%s: Same(%v, %v): not %v", what, x, y, want)
	}
}

// P7.1, R1: lists are alike if their rules are, one by one; how a list without elements is told does not matter.
func TestSame(t *testing.T) {
	for _, n := range []int{0, 1, 2, 5, 40, 41} {
		wantSame(t, "alike", many(n), many(n), true)
		l := many(n)
		wantSame(t, "itself", l, l, true)
		wantSame(t, "one more", many(n), many(n+1), false)
		wantSame(t, "from the second on", many(n + 1)[1:], many(n), n == 0)
		wantSame(t, "nil", nil, many(n), n == 0)
		wantSame(t, "no elements", []api.Rule{}, many(n), n == 0)
		wantSame(t, "more behind its length", many(n + 3)[:n], many(n), true)
	}
	wantSame(t, "nil and nil", nil, nil, true)
	wantSame(t, "nil and no elements", nil, []api.Rule{}, true)
	wantSame(t, "one zero rule", nil, []api.Rule{{}}, false)
	for i := range 4 {
		l := many(5)
		l[i], l[i+1] = l[i+1], l[i]
		wantSame(t, "another order", l, many(5), false)
	}
}

// P7.1, R1: a difference in any one field of any one rule, right or not, is one.
func TestSameFields(t *testing.T) {
	changes := append(wrongTurns(),
		turn{"ID", func(r *api.Rule) { r.ID += 1000 }},
		turn{"Device", func(r *api.Rule) { r.Device++ }},
		turn{"Prio", func(r *api.Rule) { r.Prio++ }},
		turn{"Kind", func(r *api.Rule) { r.Kind ^= 1 }},
		turn{"From", func(r *api.Rule) { r.R.From++ }},
		turn{"To", func(r *api.Rule) { r.R.To-- }},
		turn{"Port", func(r *api.Rule) { r.Port++ }},
	)
	for _, n := range []int{1, 2, 40} {
		for i := range n {
			for _, c := range changes {
				l := many(n)
				c.do(&l[i])
				wantSame(t, c.name, l, many(n), false)
				wantSame(t, c.name+", in both", l, slices.Clone(l), true)
			}
		}
	}
}
