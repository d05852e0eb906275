package query

import (
	"math"
	"slices"
	"testing"

	"waystone/api"
	"waystone/fate"
)

const last = api.MaxAddr

// rg is a range.
func rg(from, to uint32) api.Range { return api.Range{From: from, To: to} }

// all are all addresses.
func all() api.Range { return rg(0, last) }

// ln joins the port p of the device d to the port q of the device e.
func ln(d, p, e, q int) api.Link {
	return api.Link{A: api.Port{Device: d, Port: p}, B: api.Port{Device: e, Port: q}}
}

// top is a topology of devices with so many ports.
func top(links []api.Link, ports ...int) api.Topology {
	return api.Topology{Ports: ports, Links: links}
}

// by is a device's rule that forwards a range by a port.
func by(device, port int, r api.Range, prio int) api.Rule {
	return api.Rule{Device: device, Prio: prio, Kind: api.Forward, R: r, Port: port}
}

// no is a device's rule of another kind.
func no(kind api.RuleKind, device int, r api.Range, prio int) api.Rule {
	return api.Rule{Device: device, Prio: prio, Kind: kind, R: r}
}

// net is a network of rules whose IDs are their places, from 1 on.
func net(t api.Topology, l ...api.Rule) api.Network {
	return with(api.Network{T: t}, l...)
}

// with is a network with other rules, whose IDs are their places, from 1 on, and with a topology of its own.
func with(n api.Network, l ...api.Rule) api.Network {
	m := api.Network{T: top(slices.Clone(n.T.Links), slices.Clone(n.T.Ports)...)}
	for i, r := range l {
		r.ID = i + 1
		m.Rules = append(m.Rules, r)
	}
	return m
}

// twin is a network alike, with lists of its own.
func twin(n api.Network) api.Network {
	return api.Network{T: top(slices.Clone(n.T.Links), slices.Clone(n.T.Ports)...), Rules: slices.Clone(n.Rules)}
}

// ordinary is a right network, far from every limit: 0, 1 and 2 stand in a row, 3 hangs on 1 and is joined to itself, 4 is joined to none.
func ordinary() api.Network {
	t := top([]api.Link{ln(0, 1, 1, 0), ln(2, 0, 1, 1), ln(1, 2, 3, 0), ln(3, 1, 3, 2)}, 2, 4, 2, 3, 1)
	return net(t,
		by(0, 1, rg(100, 199), 5), by(0, 0, rg(200, 209), 5), no(api.Drop, 0, rg(210, 219), 5), by(0, 1, rg(220, 229), 5), no(api.Deny, 0, rg(220, 229), 5),
		by(1, 3, rg(100, 109), 5), no(api.Drop, 1, rg(110, 119), 5), no(api.Deny, 1, rg(120, 129), 5), by(1, 0, rg(140, 149), 5), by(1, 1, rg(150, 179), 5), by(1, 2, rg(180, 199), 5),
		by(2, 1, rg(150, 159), 5), by(2, 0, rg(160, 169), 5), no(api.Drop, 2, rg(170, 173), 5), no(api.Deny, 2, rg(174, 176), 5),
		by(3, 1, rg(180, 184), 5), by(3, 0, rg(185, 189), 5), no(api.Drop, 3, rg(190, 193), 5), no(api.Deny, 3, rg(194, 196), 5),
		by(4, 0, all(), 5),
	)
}

// line are so many devices in a row, each of which forwards all to the one behind it; the last one delivers.
func line(n int) api.Network {
	t := top(nil)
	var l []api.Rule
	for d := range n {
		t.Ports = append(t.Ports, 2)
		if d > 0 {
			t.Links = append(t.Links, ln(d-1, 1, d, 0))
		}
		l = append(l, by(d, 1, all(), 0))
	}
	return net(t, l...)
}

// ring is a line whose last device is joined to the first.
func ring(n int) api.Network {
	x := line(n)
	x.T.Links = append(x.T.Links, ln(n-1, 1, 0, 0))
	return x
}

// most has as many devices, ports, links and rules as there may be.
func most() api.Network {
	t := top(nil, 4, 4, 4, 4, 4, 4, 4, 4)
	for i := range api.MaxLinks {
		t.Links = append(t.Links, ln(i/4, i%4, 7-i/4, (i+1)%4))
	}
	var l []api.Rule
	for i := range uint32(api.MaxRules) {
		l = append(l, by(int(i%8), int(i/8%4), rg(10*i, 10*i+90), int(i%3)))
	}
	return net(t, l...)
}

// kinds are all kinds.
func kinds() []api.QueryKind {
	return []api.QueryKind{api.Reach, api.NoLoop, api.NoHole, api.Isolated, api.Waypoint, api.Same}
}

// reach asks whether all from a are delivered at b.
func reach(a, b int, r api.Range) api.Query { return api.Query{Kind: api.Reach, A: a, B: b, R: r} }

// noLoop asks whether none is looped.
func noLoop(r api.Range) api.Query { return api.Query{Kind: api.NoLoop, R: r} }

// noHole asks whether none is lost.
func noHole(r api.Range) api.Query { return api.Query{Kind: api.NoHole, R: r} }

// isolated asks whether none from a comes to b.
func isolated(a, b int, r api.Range) api.Query {
	return api.Query{Kind: api.Isolated, A: a, B: b, R: r}
}

// waypoint asks whether all from a that are delivered at b come to w.
func waypoint(a, b, w int, r api.Range) api.Query {
	return api.Query{Kind: api.Waypoint, A: a, B: b, W: w, R: r}
}

// same asks whether all have the same trace in another network.
func same(r api.Range) api.Query { return api.Query{Kind: api.Same, R: r, Other: "other"} }

// tr is a trace of one that is not delivered.
func tr(f api.Fate, devices ...int) api.Trace { return api.Trace{Devices: devices, Fate: f} }

// out is a trace of one that is delivered, by a port of the last one of the devices.
func out(port int, devices ...int) api.Trace {
	return outOf(api.Port{Device: devices[len(devices)-1], Port: port}, devices...)
}

// outOf is a trace of one that is delivered, by any port.
func outOf(p api.Port, devices ...int) api.Trace {
	return api.Trace{Devices: devices, Fate: api.Delivered, Out: p}
}

// broken is the verdict of what a packet from a device breaks.
func broken(from int, addr uint32, t api.Trace) api.Verdict {
	return api.Verdict{From: from, Addr: addr, Trace: t}
}

// holds is the verdict of what none breaks.
func holds() api.Verdict { return api.Verdict{Holds: true} }

// alike tells field by field whether two verdicts are alike.
func alike(x, y api.Verdict) bool {
	return x.Holds == y.Holds && x.From == y.From && x.Addr == y.Addr && x.Trace.Fate == y.Trace.Fate && x.Trace.Out == y.Trace.Out && slices.Equal(x.Trace.Devices, y.Trace.Devices)
}

// want asks for a verdict.
func want(t *testing.T, what string, n, other api.Network, q api.Query, v api.Verdict) {
	t.Helper()
	if got, e := Run(n, other, q); e != api.OK || !alike(got, v) {
		t.Fatalf("%s: %+v: %+v, %v; want %+v", what, q, got, e, v)
	}
}

// wantRefused asks for ErrQuery, beside which there is no verdict.
func wantRefused(t *testing.T, what string, n, other api.Network, q api.Query) {
	t.Helper()
	if v, e := Run(n, other, q); e != api.ErrQuery || !alike(v, api.Verdict{}) {
		t.Fatalf("%s: %+v: %+v, %v; want ErrQuery", what, q, v, e)
	}
}

// wantWrong asks for a query that is not right, of which Run answers ErrQuery.
func wantWrong(t *testing.T, what string, n api.Network, q api.Query) {
	t.Helper()
	if Right(n, q) {
		t.Fatalf("%s: %+v is right, of %v", what, q, n.T)
	}
	wantRefused(t, what, n, n, q)
}

// wantRight asks for a query that is right, of which Run answers a verdict.
func wantRight(t *testing.T, what string, n api.Network, q api.Query) {
	t.Helper()
	if !Right(n, q) {
		t.Fatalf("%s: %+v is not right, of %v", what, q, n.T)
	}
	if v, e := Run(n, n, q); e != api.OK {
		t.Fatalf("%s: %+v: %+v, %v", what, q, v, e)
	}
}

// isBroken is the model of Breaks, of a packet's own traces: kind by kind, as the chapter tells it.
func isBroken(t *testing.T, n, other api.Network, q api.Query, device int, a uint32) bool {
	t.Helper()
	x := trace(t, n, device, a)
	comes := map[int]int{}
	for _, d := range x.Devices {
		comes[d]++
	}
	ends := -1
	if x.Fate == api.Delivered {
		ends = x.Out.Device
	}
	switch q.Kind {
	case api.Reach:
		return device == q.A && ends != q.B
	case api.NoLoop:
		return x.Fate == api.Looped
	case api.NoHole:
		return x.Fate == api.Lost
	case api.Isolated:
		return device == q.A && comes[q.B] > 0
	case api.Waypoint:
		return device == q.A && ends == q.B && comes[q.W] == 0
	}
	return !fate.Same(x, trace(t, other, device, a))
}

// least is the model of a verdict: the first packet that breaks a query, of all devices, and of the addresses that are asked, within its range.
func least(t *testing.T, n, other api.Network, q api.Query, asked []uint32) api.Verdict {
	t.Helper()
	some := append(slices.Clone(asked), q.R.From, q.R.To)
	slices.Sort(some)
	for device := range n.T.Ports {
		for _, a := range slices.Compact(some) {
			if q.R.From <= a && a <= q.R.To && isBroken(t, n, other, q, device, a) {
				return broken(device, a, trace(t, n, device, a))
			}
		}
	}
	return holds()
}

// far are numbers of devices that no topology has.
func far() []int {
	return []int{math.MinInt, math.MinInt + 1, -1 << 32, -8, -2, -1, 8, 9, 100, 1 << 32, 1<<32 + 1, math.MaxInt}
}

// beyond are numbers of devices that a network has not, the first one above the last among them.
func beyond(n api.Network) []int { return append(far(), len(n.T.Ports)) }

// trace is that of a packet, from a device that there is.
func trace(t *testing.T, n api.Network, device int, a uint32) api.Trace {
	t.Helper()
	x, e := fate.Trace(n, device, a)
	if e != api.OK {
		t.Fatalf("%v: Trace(%d, %d): %v", n, device, a, e)
	}
	return x
}

// cutsOf are the boundaries of some networks' rules, rising, each once.
func cutsOf(l ...api.Network) []uint32 {
	cuts := []uint32{0}
	for _, n := range l {
		for _, r := range n.Rules {
			cuts = append(cuts, r.R.From)
			if r.R.To != last {
				cuts = append(cuts, r.R.To+1)
			}
		}
	}
	slices.Sort(cuts)
	return slices.Compact(cuts)
}

// mixer draws numbers, the same ones each time.
type mixer uint64

// below is a number below n.
func (x *mixer) below(n int) int {
	*x = *x*6364136223846793005 + 1442695040888963407
	return int(uint64(*x) >> 33 % uint64(n))
}

// addresses are few about both ends of all addresses, and one in the midst.
func addresses() []uint32 {
	l := []uint32{1 << 31}
	for i := range uint32(24) {
		l = append(l, i-8)
	}
	return l
}

// asked are the boundaries of some networks, their neighbours, the ends of all addresses, and drawn addresses.
func (x *mixer) asked(l ...api.Network) []uint32 {
	some := append(addresses(), 0, 1, last-1, last)
	for _, a := range cutsOf(l...) {
		some = append(some, a-1, a, a+1)
	}
	for range 20 {
		some = append(some, uint32(x.below(1<<16)<<16|x.below(1<<16)), uint32(x.below(400)))
	}
	return some
}

// topology is a right one: any ports, of which any two are joined by a link.
func (x *mixer) topology() api.Topology {
	t := top(nil)
	var free []api.Port
	for d := range 1 + x.below(api.MaxDevices) {
		t.Ports = append(t.Ports, 1+x.below(api.MaxPorts))
		for p := range t.Ports[d] {
			free = append(free, api.Port{Device: d, Port: p})
		}
	}
	for i := range free {
		k := i + x.below(len(free)-i)
		free[i], free[k] = free[k], free[i]
	}
	// Mostly many are joined, so that packets go far.
	for n := max(x.below(len(free)/2+1), x.below(len(free)/2+1)); n > 0; n-- {
		t.Links = append(t.Links, api.Link{A: free[0], B: free[1]})
		free = free[2:]
	}
	return t
}

// rule is a right one that fits, but without an ID, of few addresses and Prios, so that many rules take the same; most forward.
func (x *mixer) rule(t api.Topology) api.Rule {
	about := addresses()
	a, b := about[x.below(len(about))], about[x.below(len(about))]
	r := api.Rule{Device: x.below(len(t.Ports)), Prio: x.below(4), Kind: api.RuleKind(max(0, x.below(9)-5)), R: rg(min(a, b), max(a, b))}
	if r.Kind == api.Forward {
		r.Port = x.below(t.Ports[r.Device])
		if x.below(2) == 0 {
			r.Prio, r.R = 0, all()
		}
	}
	return r
}

// network is a right one.
func (x *mixer) network() api.Network {
	n := api.Network{T: x.topology()}
	id := 0
	for range x.below(api.MaxRules + 1) {
		r := x.rule(n.T)
		id += 1 + x.below(5)
		r.ID = id
		n.Rules = append(n.Rules, r)
	}
	return n
}

// other is a right network that differs from one in a few rules, or in none.
func (x *mixer) other(n api.Network) api.Network {
	m := twin(n)
	for range x.below(4) {
		k := len(m.Rules)
		if k == 0 {
			break
		}
		i := x.below(k)
		if x.below(3) == 0 {
			m.Rules = slices.Delete(m.Rules, i, i+1)
			continue
		}
		id := m.Rules[i].ID
		m.Rules[i] = x.rule(m.T)
		m.Rules[i].ID = id
	}
	return m
}

// span is a right range: of one address, of all, or between boundaries of some networks, or neighbours of these.
func (x *mixer) span(l ...api.Network) api.Range {
	cuts := cutsOf(l...)
	near := func() uint32 { return cuts[x.below(len(cuts))] + uint32(x.below(3)) - 1 }
	a, b := near(), near()
	switch x.below(8) {
	case 0:
		return rg(a, a)
	case 1:
		return all()
	}
	return rg(min(a, b), max(a, b))
}

// query is a right one, of a kind.
func (x *mixer) query(n api.Network, k api.QueryKind, r api.Range) api.Query {
	device := func() int { return x.below(len(n.T.Ports)) }
	switch k {
	case api.Reach, api.Isolated:
		return api.Query{Kind: k, A: device(), B: device(), R: r}
	case api.Waypoint:
		return api.Query{Kind: k, A: device(), B: device(), W: device(), R: r}
	case api.Same:
		return api.Query{Kind: k, R: r, Other: "other"[:x.below(6)]}
	}
	return api.Query{Kind: k, R: r}
}

// drawn are so many networks.
func drawn(many int) []api.Network {
	var l []api.Network
	for seed := range many {
		mix := mixer(seed)
		l = append(l, mix.network())
	}
	return l
}

// rights are right networks: least ones, ordinary ones, the greatest, and drawn ones.
func rights() []api.Network {
	l := []api.Network{net(top(nil, 1)), net(top([]api.Link{}, 4), []api.Rule{}...), net(top([]api.Link{ln(0, 0, 0, 1)}, 2), by(0, 1, all(), 0)), line(1), line(2), line(8), ring(2), ring(8), ordinary(), most()}
	return append(l, drawn(30)...)
}

// tally counts the verdicts of a kind.
type tally struct {
	holds, first, later  int // from which device
	begin, within, end   int // where in a range of several addresses
	single, several, one int // of ranges: of one address, of several; of verdicts that hold, of one address
}

// add counts a verdict.
func (c *tally) add(q api.Query, v api.Verdict) {
	one := q.R.From == q.R.To
	switch {
	case v.Holds:
		c.holds++
	case v.From == 0:
		c.first++
	default:
		c.later++
	}
	switch {
	case one && v.Holds:
		c.one++
	case one:
		c.single++
	case v.Holds:
		c.several++
	case v.Addr == q.R.From:
		c.begin++
	case v.Addr == q.R.To:
		c.end++
	default:
		c.within++
	}
}

// The drawn queries have verdicts of all the forms of which the chapter speaks, often enough for the promises to be seen; all networks are right.
func TestDrawn(t *testing.T) {
	var counts [6]tally
	for seed, n := range drawn(150) {
		mix := mixer(seed)
		m := mix.other(n)
		if !fate.Right(n) || !fate.Right(m) {
			t.Fatalf("not right: %v; %v", n, m)
		}
		for range 10 {
			for k := range counts {
				q := mix.query(n, api.QueryKind(k), mix.span(n, m))
				counts[k].add(q, least(t, n, m, q, mix.asked(n, m)))
			}
		}
	}
	for k, c := range counts {
		if min(c.holds, c.first, c.later, c.begin, c.within, c.end, c.single, c.several, c.one) < 2 {
			t.Errorf("too few, of %d: %+v", k, c)
		}
	}
	for _, n := range rights() {
		if !fate.Right(n) {
			t.Errorf("not right: %v", n)
		}
	}
}
