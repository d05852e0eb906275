package rule

import (
	"cmp"
	"slices"
	"testing"

	"waystone/api"
)

const last = api.MaxAddr

// rg is a range.
func rg(from, to uint32) api.Range { return api.Range{From: from, To: to} }

// kinds are all four.
func kinds() []api.RuleKind {
	return []api.RuleKind{api.Forward, api.Drop, api.Permit, api.Deny}
}

// ordinary is a right rule of that kind, far from every limit.
func ordinary(kind api.RuleKind) api.Rule {
	r := api.Rule{ID: 7, Device: 3, Prio: 10, Kind: kind, R: rg(100, 200)}
	if kind == api.Forward {
		r.Port = 2
	}
	return r
}

// many are so many right rules, of the IDs from 1 on and of every kind.
func many(n int) []api.Rule {
	l := make([]api.Rule, n)
	for i := range l {
		l[i] = ordinary(kinds()[i%4])
		l[i].ID = i + 1
	}
	return l
}

// turn is a way in which a rule is changed in one field.
type turn struct {
	name string
	do   func(r *api.Rule)
}

// wrongTurns each make of a right rule, of any kind, one that is not.
func wrongTurns() []turn {
	return []turn{
		{"ID 0", func(r *api.Rule) { r.ID = 0 }},
		{"ID too great", func(r *api.Rule) { r.ID = api.MaxID + 1 }},
		{"device below 0", func(r *api.Rule) { r.Device = -1 }},
		{"device too great", func(r *api.Rule) { r.Device = api.MaxDevices }},
		{"Prio below 0", func(r *api.Rule) { r.Prio = -1 }},
		{"Prio too great", func(r *api.Rule) { r.Prio = api.MaxPrio + 1 }},
		{"kind below 0", func(r *api.Rule) { r.Kind = -1 }},
		{"kind too great", func(r *api.Rule) { r.Kind = 4 }},
		{"range backward", func(r *api.Rule) { r.R = rg(5, 4) }},
		{"port below 0", func(r *api.Rule) { r.Port = -1 }},
		{"port too great", func(r *api.Rule) { r.Port = api.MaxPorts }},
	}
}

// mixer draws numbers, the same ones each time.
type mixer uint64

// below is a number below n.
func (x *mixer) below(n int) int {
	*x = *x*6364136223846793005 + 1442695040888963407
	return int(uint64(*x) >> 33 % uint64(n))
}

// address is one of few about both ends of all addresses, so that drawn ranges meet.
func (x *mixer) address() uint32 {
	return uint32(x.below(24)) - 8
}

// crowded are right rules, of few devices, Prios and addresses, so that many take the same.
func (x *mixer) crowded() []api.Rule {
	l := make([]api.Rule, x.below(api.MaxRules+1))
	id := 0
	for i := range l {
		id += 1 + x.below(5)
		a, b := x.address(), x.address()
		l[i] = api.Rule{ID: id, Device: x.below(3), Prio: x.below(4), Kind: kinds()[x.below(4)], R: rg(min(a, b), max(a, b))}
		if l[i].Kind == api.Forward {
			l[i].Port = x.below(api.MaxPorts)
		}
	}
	return l
}

// wide is a right rule with every field anywhere that it may be.
func (x *mixer) wide() api.Rule {
	a, b := uint32(x.below(1<<31))<<1|uint32(x.below(2)), uint32(x.below(1<<31))<<1|uint32(x.below(2))
	r := api.Rule{
		ID:     1 + x.below(api.MaxID),
		Device: x.below(api.MaxDevices),
		Prio:   x.below(api.MaxPrio + 1),
		Kind:   kinds()[x.below(4)],
		R:      rg(min(a, b), max(a, b)),
	}
	if r.Kind == api.Forward {
		r.Port = x.below(api.MaxPorts)
	}
	return r
}

// isAccess tells in which table a rule stands, Permit's or the other one.
func isAccess(r api.Rule) bool { return r.Kind == api.Permit || r.Kind == api.Deny }

// inOrder are a device's rules of one table that take an address, the first one first.
func inOrder(l []api.Rule, device int, a uint32, access bool) []api.Rule {
	var took []api.Rule
	for _, r := range l {
		if r.Device == device && isAccess(r) == access && a >= r.R.From && a <= r.R.To {
			took = append(took, r)
		}
	}
	slices.SortFunc(took, func(x, y api.Rule) int { return cmp.Or(cmp.Compare(y.Prio, x.Prio), cmp.Compare(x.ID, y.ID)) })
	return took
}

// wantMatched asks Match and Denies for what the rules in order tell.
func wantMatched(t *testing.T, l []api.Rule, device int, a uint32) {
	t.Helper()
	var want api.Rule
	took := inOrder(l, device, a, false)
	if len(took) > 0 {
		want = took[0]
	}
	if r, is := Match(l, device, a); r != want || is != (len(took) > 0) {
		t.Fatalf("Match(%v, %d, %d): %v, %v; want %v", l, device, a, r, is, want)
	}
	took = inOrder(l, device, a, true)
	denied := len(took) > 0 && took[0].Kind == api.Deny
	if got := Denies(l, device, a); got != denied {
		t.Fatalf("Denies(%v, %d, %d): %v; want %v", l, device, a, got, denied)
	}
}
