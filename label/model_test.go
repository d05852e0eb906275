package label

import (
	"cmp"
	"math"
	"slices"
	"testing"

	"waystone/api"
)

const last = api.MaxAddr

// rg is a range.
func rg(from, to uint32) api.Range { return api.Range{From: from, To: to} }

// all are all addresses.
func all() api.Range { return rg(0, last) }

// ln joins the port p of the device d to the port q of the device e.
func ln(d, p, e, q int) api.Link {
	return api.Link{A: api.Port{Device: d, Port: p}, B: api.Port{Device: e, Port: q}}
}

// top is a topology of devices with so many ports.
func top(links []api.Link, ports ...int) api.Topology {
	return api.Topology{Ports: ports, Links: links}
}

// by is a device's rule that forwards a range by a port.
func by(device, port int, r api.Range, prio int) api.Rule {
	return api.Rule{Device: device, Prio: prio, Kind: api.Forward, R: r, Port: port}
}

// no is a device's rule of another kind.
func no(kind api.RuleKind, device int, r api.Range, prio int) api.Rule {
	return api.Rule{Device: device, Prio: prio, Kind: kind, R: r}
}

// id is a rule with an ID.
func id(i int, r api.Rule) api.Rule {
	r.ID = i
	return r
}

// net is a network of rules whose IDs are ten times their places, from 1 on, so that there is room between them.
func net(t api.Topology, l ...api.Rule) api.Network {
	n := api.Network{T: t}
	for i, r := range l {
		n.Rules = append(n.Rules, id(10*(i+1), r))
	}
	return n
}

// ordinary is a right network, far from every limit: 0, 1 and 2 stand in a row, 3 is joined to itself, 4 to none.
func ordinary() api.Network {
	t := top([]api.Link{ln(0, 1, 1, 0), ln(2, 0, 1, 1), ln(3, 1, 3, 2)}, 2, 4, 2, 3, 1)
	return net(t,
		by(0, 1, rg(100, 199), 5), by(0, 0, rg(200, 209), 5), no(api.Drop, 0, rg(210, 219), 5), no(api.Deny, 0, rg(205, 214), 5),
		by(1, 3, rg(100, 129), 5), no(api.Drop, 1, rg(120, 139), 7), no(api.Deny, 1, rg(100, 199), 5), no(api.Permit, 1, rg(110, 189), 6),
		by(2, 1, rg(0, 149), 5), by(2, 0, rg(140, last), 4),
		by(3, 2, all(), 5), by(3, 1, rg(50, 50), 6), no(api.Deny, 3, rg(last, last), 0),
	)
}

// most has as many devices, ports, links and rules as there may be, and rules by each port.
func most() api.Network {
	t := top(nil, 4, 4, 4, 4, 4, 4, 4, 4)
	for i := range api.MaxLinks {
		t.Links = append(t.Links, ln(i/4, i%4, 7-i/4, (i+1)%4))
	}
	var l []api.Rule
	for i := range uint32(api.MaxRules) {
		l = append(l, by(int(i%8), int(i/8%4), rg(10*i, 10*i+90), int(i%3)))
	}
	return net(t, l...)
}

// twin is a network alike, with lists of its own.
func twin(n api.Network) api.Network {
	return with(n, slices.Clone(n.Rules))
}

// with is a network with other rules, and with a topology of its own.
func with(n api.Network, l []api.Rule) api.Network {
	return api.Network{T: top(slices.Clone(n.T.Links), slices.Clone(n.T.Ports)...), Rules: l}
}

// more is a network with a rule that it has not, put in order.
func more(n api.Network, r api.Rule) api.Network {
	l := append(slices.Clone(n.Rules), r)
	slices.SortFunc(l, func(x, y api.Rule) int { return cmp.Compare(x.ID, y.ID) })
	return with(n, l)
}

// less is a network without the rule with an ID.
func less(n api.Network, id int) api.Network {
	return with(n, slices.DeleteFunc(slices.Clone(n.Rules), func(r api.Rule) bool { return r.ID == id }))
}

// sameNetwork tells list by list whether two networks are alike.
func sameNetwork(x, y api.Network) bool {
	return slices.Equal(x.T.Ports, y.T.Ports) && slices.Equal(x.T.Links, y.T.Links) && slices.Equal(x.Rules, y.Rules)
}

// partsOf are a network's atoms, from each boundary of its rules' ranges up to the next one.
func partsOf(n api.Network) []api.Range {
	cuts := []uint32{0}
	for _, r := range n.Rules {
		cuts = append(cuts, r.R.From)
		if r.R.To != last {
			cuts = append(cuts, r.R.To+1)
		}
	}
	slices.Sort(cuts)
	cuts = slices.Compact(cuts)
	var l []api.Range
	for i, from := range cuts {
		l = append(l, rg(from, last))
		if i > 0 {
			l[i-1].To = from - 1
		}
	}
	return l
}

// firstOf is, of a device's rules of two kinds that take an address, the one that is gone by, put in order.
func firstOf(n api.Network, device int, a uint32, one, other api.RuleKind) (api.Rule, bool) {
	l := slices.DeleteFunc(slices.Clone(n.Rules), func(r api.Rule) bool {
		return r.Device != device || r.Kind != one && r.Kind != other || a < r.R.From || a > r.R.To
	})
	if len(l) == 0 {
		return api.Rule{}, false
	}
	slices.SortFunc(l, func(x, y api.Rule) int { return cmp.Or(cmp.Compare(y.Prio, x.Prio), cmp.Compare(x.ID, y.ID)) })
	return l[0], true
}

// becomes is the label of an address at a device.
func becomes(n api.Network, device int, a uint32) int {
	if r, is := firstOf(n, device, a, api.Permit, api.Deny); is && r.Kind == api.Deny {
		return -3
	}
	r, is := firstOf(n, device, a, api.Forward, api.Drop)
	switch {
	case !is:
		return -1
	case r.Kind == api.Drop:
		return -2
	}
	return r.Port
}

// beyond are numbers that no device and no atom has, below 0 and from how many there are on.
func beyond(many int) []int {
	return []int{math.MinInt, math.MinInt + 1, -1 << 32, -many, -2, -1, many, many + 1, 1 << 32, 1<<32 + 1, math.MaxInt}
}

// wantLabels asks every call that reads for the labels of a network.
func wantLabels(t *testing.T, what string, l *Labels, n api.Network) {
	t.Helper()
	if l == nil || !sameNetwork(l.Network(), n) {
		t.Fatalf("%s: network %v; want %v", what, l.Network(), n)
	}
	parts := partsOf(n)
	if l.Atoms() != len(parts) {
		t.Fatalf("%s: %v: %d atoms; want %d", what, n, l.Atoms(), len(parts))
	}
	for i, part := range parts {
		wantAtom(t, what, l, i, part, true)
		for d := range n.T.Ports {
			wantAt(t, what, l, d, i, becomes(n, d, part.To), true)
		}
	}
	for _, i := range beyond(len(parts)) {
		wantAtom(t, what, l, i, api.Range{}, false)
		wantAt(t, what, l, 0, i, 0, false)
	}
	for _, d := range beyond(len(n.T.Ports)) {
		wantAt(t, what, l, d, 0, 0, false)
	}
}

// wantAtom asks Atom.
func wantAtom(t *testing.T, what string, l *Labels, i int, want api.Range, has bool) {
	t.Helper()
	if r, is := l.Atom(i); r != want || is != has {
		t.Fatalf("%s: %v: Atom(%d): %v, %v; want %v, %v", what, l.Network(), i, r, is, want, has)
	}
}

// wantAt asks At.
func wantAt(t *testing.T, what string, l *Labels, device, atom, want int, has bool) {
	t.Helper()
	if x, is := l.At(device, atom); x != want || is != has {
		t.Fatalf("%s: %v: At(%d, %d): %d, %v; want %d, %v", what, l.Network(), device, atom, x, is, want, has)
	}
}

// mustOf are a right network's.
func mustOf(t *testing.T, n api.Network) *Labels {
	t.Helper()
	return must(t, "Of", n, func() (*Labels, api.Errno) { return Of(n) })
}

// mustInsert are those with a rule more, of a network that is right with it.
func mustInsert(t *testing.T, l *Labels, r api.Rule) *Labels {
	t.Helper()
	return must(t, "Insert", r, func() (*Labels, api.Errno) { return l.Insert(r) })
}

// mustDelete are those without a rule that is there.
func mustDelete(t *testing.T, l *Labels, id int) *Labels {
	t.Helper()
	return must(t, "Delete", id, func() (*Labels, api.Errno) { return l.Delete(id) })
}

// must are the labels that a call answers.
func must(t *testing.T, what string, of any, do func() (*Labels, api.Errno)) *Labels {
	t.Helper()
	l, e := do()
	if l == nil || e != api.OK {
		t.Fatalf("%s %v: %v, %v", what, of, l, e)
	}
	return l
}

// wantRefused asks Insert for an error, beside which there are no labels, and for labels at hand that stay.
func wantRefused(t *testing.T, l *Labels, n api.Network, r api.Rule, want api.Errno) {
	t.Helper()
	if x, e := l.Insert(r); x != nil || e != want {
		t.Fatalf("%v: Insert(%v): %v, %v; want %v", n, r, x, e, want)
	}
	wantLabels(t, "refused", l, n)
}

// wantNone asks Delete for ErrNone, beside which there are no labels, and for labels at hand that stay.
func wantNone(t *testing.T, l *Labels, n api.Network, id int) {
	t.Helper()
	if x, e := l.Delete(id); x != nil || e != api.ErrNone {
		t.Fatalf("%v: Delete(%d): %v, %v", n, id, x, e)
	}
	wantLabels(t, "refused", l, n)
}

// mixer draws numbers, the same ones each time.
type mixer uint64

// below is a number below n.
func (x *mixer) below(n int) int {
	*x = *x*6364136223846793005 + 1442695040888963407
	return int(uint64(*x) >> 33 % uint64(n))
}

// mixed are rules in another order.
func (x *mixer) mixed(l []api.Rule) []api.Rule {
	l = slices.Clone(l)
	for i := range l {
		k := i + x.below(len(l)-i)
		l[i], l[k] = l[k], l[i]
	}
	return l
}

// addresses are few about both ends of all addresses, and one in the midst.
func addresses() []uint32 {
	l := []uint32{1 << 31}
	for i := range uint32(24) {
		l = append(l, i-8)
	}
	return l
}

// topology is a right one: any ports, of which any two are joined by a link.
func (x *mixer) topology() api.Topology {
	t := top(nil)
	var free []api.Port
	for d := range 1 + x.below(api.MaxDevices) {
		t.Ports = append(t.Ports, 1+x.below(api.MaxPorts))
		for p := range t.Ports[d] {
			free = append(free, api.Port{Device: d, Port: p})
		}
	}
	for i := range free {
		k := i + x.below(len(free)-i)
		free[i], free[k] = free[k], free[i]
	}
	for n := x.below(len(free)/2 + 1); n > 0; n-- {
		t.Links = append(t.Links, api.Link{A: free[0], B: free[1]})
		free = free[2:]
	}
	return t
}

// rule is a right one that fits, but without an ID, of few addresses and Prios, so that many rules take the same.
func (x *mixer) rule(t api.Topology) api.Rule {
	about := addresses()
	a, b := about[x.below(len(about))], about[x.below(len(about))]
	r := api.Rule{Device: x.below(len(t.Ports)), Prio: x.below(4), Kind: api.RuleKind(max(0, x.below(6)-2)), R: rg(min(a, b), max(a, b))}
	if r.Kind == api.Forward {
		r.Port = x.below(t.Ports[r.Device])
	}
	return r
}

// network is a right one.
func (x *mixer) network() api.Network {
	n := api.Network{T: x.topology()}
	i := 0
	for range x.below(api.MaxRules + 1) {
		i += 1 + x.below(5)
		n.Rules = append(n.Rules, id(i, x.rule(n.T)))
	}
	return n
}

// drawn are so many networks.
func drawn(many int) []api.Network {
	var l []api.Network
	for seed := range many {
		mix := mixer(seed)
		l = append(l, mix.network())
	}
	return l
}

// rights are right networks: least ones, an ordinary one, the greatest, and drawn ones.
func rights() []api.Network {
	l := []api.Network{net(top(nil, 1)), net(top([]api.Link{}, 4), []api.Rule{}...), net(top([]api.Link{ln(0, 0, 0, 1)}, 2), by(0, 1, all(), 0)), ordinary(), most()}
	return append(l, drawn(30)...)
}

// The drawn networks have labels of all kinds, often enough for the promises to be seen: also such as one of several rules made.
func TestDrawn(t *testing.T) {
	times := map[int]int{}
	permitted, several, whole := 0, 0, 0
	for _, n := range drawn(200) {
		for _, part := range partsOf(n) {
			for d := range n.T.Ports {
				x := becomes(n, d, part.From)
				times[x]++
				if _, is := firstOf(n, d, part.From, api.Deny, api.Deny); is && x != -3 {
					permitted++
				}
				f, a := firstOf(n, d, part.From, api.Forward, api.Drop)
				if g, b := firstOf(less(n, f.ID), d, part.From, api.Forward, api.Drop); a && b && (g.Port != f.Port || g.Kind != f.Kind) {
					several++
				}
				if part.From < part.To {
					whole++
				}
			}
		}
	}
	for x := -3; x < api.MaxPorts; x++ {
		if times[x] < 100 {
			t.Errorf("too few of %d: %v", x, times)
		}
	}
	if min(permitted, several, whole) < 100 {
		t.Errorf("too few: %d, %d, %d", permitted, several, whole)
	}
}
