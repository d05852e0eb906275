package rule

import (
	"math"
	"testing"

	"waystone/api"
)

// wantMatch asks Match for the rule with an ID; 0: for none.
func wantMatch(t *testing.T, what string, l []api.Rule, device int, a uint32, id int) {
	t.Helper()
	want, _ := Find(l, id)
	if r, is := Match(l, device, a); r != want || is != (id != 0) || r.ID != id {
		t.Errorf("%s: Match at %d of %d: %v, %v; want %d", what, device, a, r, is, id)
	}
}

// wantDenies asks Denies of an address.
func wantDenies(t *testing.T, what string, l []api.Rule, device int, a uint32, want bool) {
	t.Helper()
	if Denies(l, device, a) != want {
		t.Errorf("%s: Denies at %d of %d: not %v", what, device, a, want)
	}
}

// P7.1, R1: without a rule that takes an address nothing is matched, and nothing denied.
func TestNoneTakes(t *testing.T) {
	for _, device := range []int{math.MinInt, -1, 0, 3, 7, 8, math.MaxInt} {
		for _, a := range []uint32{0, 99, 100, 150, 200, 201, last} {
			for _, l := range [][]api.Rule{nil, {}} {
				wantMatch(t, "no rules", l, device, a, 0)
				wantDenies(t, "no rules", l, device, a, false)
			}
			if device != 3 || a < 100 || a > 200 {
				for n := range 5 {
					wantMatch(t, "others", many(n), device, a, 0)
					wantDenies(t, "others", many(n), device, a, false)
				}
			}
		}
	}
}

// P7.1, R1: one rule, of each kind, at both ends of its range and beside them.
func TestOneTakes(t *testing.T) {
	for _, kind := range kinds() {
		for _, x := range []api.Range{rg(100, 200), rg(150, 150), rg(0, 0), rg(0, 5), rg(last, last), rg(last-5, last), rg(0, last), rg(1<<31-1, 1<<31)} {
			r := ordinary(kind)
			r.R = x
			for _, a := range []uint32{0, 1, x.From - 1, x.From, x.From + 1, x.From/2 + x.To/2, x.To - 1, x.To, x.To + 1, last - 1, last} {
				takes := x.From <= a && a <= x.To
				id := 0
				if takes && (kind == api.Forward || kind == api.Drop) {
					id = r.ID
				}
				wantMatch(t, "one", []api.Rule{r}, r.Device, a, id)
				wantDenies(t, "one", []api.Rule{r}, r.Device, a, takes && kind == api.Deny)
				wantMatch(t, "another device's", []api.Rule{r}, r.Device+1, a, 0)
				wantDenies(t, "another device's", []api.Rule{r}, r.Device-1, a, false)
			}
		}
	}
}

// P7.1, R1: of several the greatest Prio, wherever it stands; of several of it the least ID.
func TestFirstMatched(t *testing.T) {
	for _, c := range []struct {
		prios []int // of the IDs 1, 2 ..
		id    int
	}{
		{[]int{5, 5}, 1}, {[]int{0, 0}, 1}, {[]int{1024, 1024}, 1}, {[]int{5, 6}, 2}, {[]int{6, 5}, 1}, {[]int{0, 1024}, 2}, {[]int{1024, 0}, 1},
		{[]int{1, 2, 3}, 3}, {[]int{3, 2, 1}, 1}, {[]int{1, 3, 2}, 2}, {[]int{2, 1, 3}, 3}, {[]int{2, 3, 3}, 2}, {[]int{3, 2, 3}, 1}, {[]int{3, 3, 2}, 1}, {[]int{4, 4, 4, 4}, 1}, {[]int{1, 7, 2, 7, 7}, 2},
	} {
		for _, pair := range [][2]api.RuleKind{{api.Forward, api.Drop}, {api.Drop, api.Forward}} {
			l := many(len(c.prios))
			for i := range l {
				l[i].Kind, l[i].Port, l[i].Prio = pair[i%2], 0, c.prios[i]
			}
			wantMatch(t, "Prios", l, 3, 150, c.id)
			wantDenies(t, "no access rules", l, 3, 150, false)
		}
		for _, pair := range [][2]api.RuleKind{{api.Permit, api.Deny}, {api.Deny, api.Permit}} {
			l := many(len(c.prios))
			for i := range l {
				l[i].Kind, l[i].Port, l[i].Prio = pair[i%2], 0, c.prios[i]
			}
			wantDenies(t, "Prios", l, 3, 150, pair[(c.id-1)%2] == api.Deny)
			wantMatch(t, "no forwarding rules", l, 3, 150, 0)
		}
	}
}

// P7.1, R1: a rule that is ahead but takes other addresses does not count where it ends.
func TestNarrowAhead(t *testing.T) {
	l := []api.Rule{
		{ID: 1, Prio: 5, R: rg(0, 99), Port: 2},
		{ID: 2, Prio: 9, Kind: api.Drop, R: rg(50, 59)},
		{ID: 3, Prio: 1, Kind: api.Deny, R: rg(70, 79)},
		{ID: 4, Prio: 2, Kind: api.Permit, R: rg(75, 77)},
		{ID: 5, Prio: 2, Kind: api.Deny, R: rg(77, 77)},
	}
	for a := range uint32(120) {
		id := 0
		switch {
		case a >= 50 && a <= 59:
			id = 2
		case a <= 99:
			id = 1
		}
		wantMatch(t, "narrow", l, 0, a, id)
		wantDenies(t, "narrow", l, 0, a, a >= 70 && a <= 74 || a == 78 || a == 79)
		wantMatched(t, l, 0, a)
	}
}

// P7.1, R1: rules of other devices, whatever their Prio, say nothing.
func TestOtherDevices(t *testing.T) {
	l := many(8)
	for i := range l {
		l[i].Device, l[i].Prio = 7-i, 100*i
	}
	for device := -1; device <= 8; device++ {
		id := 0
		if i := 7 - device; i >= 0 && i < 8 && (l[i].Kind == api.Forward || l[i].Kind == api.Drop) {
			id = i + 1
		}
		wantMatch(t, "each device one", l, device, 150, id)
		wantDenies(t, "each device one", l, device, 150, device == 4 || device == 0)
	}
	for _, device := range []int{math.MinInt, -1 << 32, -8, -1, 8, 9, 1 << 32, 1<<32 + 3, math.MaxInt} {
		wantMatch(t, "no device", l, device, 150, 0)
		wantDenies(t, "no device", l, device, 150, false)
	}
}

// P7.1, R1: rules of the other table, alone or ahead, say nothing.
func TestOtherTable(t *testing.T) {
	for _, prio := range []int{0, 10, 1024} { // of the other table's, beside the Prio 10
		for _, early := range []bool{true, false} {
			for _, own := range []api.RuleKind{api.Forward, api.Drop} {
				for _, other := range []api.RuleKind{api.Permit, api.Deny} {
					x, y := ordinary(own), ordinary(other)
					y.Prio = prio
					l := []api.Rule{x, y}
					if early {
						l = []api.Rule{y, x}
					}
					l[0].ID, l[1].ID = 1, 2
					id := 1
					if early {
						id = 2
					}
					wantMatch(t, "both tables", l, 3, 150, id)
					wantDenies(t, "both tables", l, 3, 150, other == api.Deny)
					alone := []api.Rule{y}
					wantMatch(t, "the other table alone", alone, 3, 150, 0)
					wantDenies(t, "the other table alone", []api.Rule{x}, 3, 150, false)
				}
			}
		}
	}
}

// P7.2: what is matched takes the address, and nothing that does is ahead of it, over drawn rules at every address that they tell apart.
func TestMatchedFirst(t *testing.T) {
	for seed := range 400 {
		mix := mixer(seed)
		l := mix.crowded()
		if !All(l) {
			t.Fatalf("seed %d: drawn rules are not right: %v", seed, l)
		}
		for device := -1; device < 4; device++ {
			for i := range uint32(30) {
				a := i - 11
				wantMatched(t, l, device, a)
				wantNoneAhead(t, l, device, a)
			}
		}
	}
}

// wantNoneAhead asks for P7.2's words: what is matched is such a rule, and none such is ahead; without one there is none such.
func wantNoneAhead(t *testing.T, l []api.Rule, device int, a uint32) {
	t.Helper()
	m, is := Match(l, device, a)
	if is && (m.Device != device || isAccess(m) || a < m.R.From || a > m.R.To) {
		t.Fatalf("Match(%v, %d, %d): %v", l, device, a, m)
	}
	had := false
	for _, r := range l {
		had = had || r == m
		if r.Device != device || isAccess(r) || a < r.R.From || a > r.R.To {
			continue
		}
		if !is || r.Prio > m.Prio || r.Prio == m.Prio && r.ID < m.ID {
			t.Fatalf("Match(%v, %d, %d): %v, and ahead of it %v", l, device, a, m, r)
		}
	}
	if is && !had {
		t.Fatalf("Match(%v, %d, %d): %v, which is not among them", l, device, a, m)
	}
}

// P7.2: any rules at all, made of bytes.
func FuzzMatch(f *testing.F) {
	f.Add([]byte{0, 5, 0, 0, 99, 0, 9, 1, 50, 59, 0, 1, 3, 70, 79}, byte(0), uint32(55))
	f.Add([]byte{1, 2, 2, 0, 9, 1, 2, 3, 0, 9}, byte(1), uint32(0))
	f.Fuzz(func(t *testing.T, b []byte, device byte, a uint32) {
		var l []api.Rule
		for i := 0; i+4 < len(b) && len(l) < api.MaxRules; i += 5 {
			x, y := uint32(b[i+3]), uint32(b[i+4])
			l = append(l, api.Rule{ID: len(l) + 1, Device: int(b[i] % 8), Prio: int(b[i+1]), Kind: api.RuleKind(b[i+2] % 4), R: rg(min(x, y), max(x, y))})
		}
		if !All(l) {
			t.Fatalf("not right: %v", l)
		}
		for _, a := range []uint32{a, a % 256} {
			wantMatched(t, l, int(device%9), a)
			wantNoneAhead(t, l, int(device%9), a)
		}
	})
}
