package flow

import (
	"math"
	"slices"
	"testing"

	"waystone/api"
	"waystone/fate"
	"waystone/zone"
)

const last = api.MaxAddr

// rg is a range.
func rg(from, to uint32) api.Range { return api.Range{From: from, To: to} }

// all are all addresses.
func all() api.Range { return rg(0, last) }

// zn is a zone, written out.
func zn(l ...api.Range) []api.Range { return l }

// ln joins the port p of the device d to the port q of the device e.
func ln(d, p, e, q int) api.Link {
	return api.Link{A: api.Port{Device: d, Port: p}, B: api.Port{Device: e, Port: q}}
}

// top is a topology of devices with so many ports.
func top(links []api.Link, ports ...int) api.Topology {
	return api.Topology{Ports: ports, Links: links}
}

// by is a device's rule that forwards a range by a port.
func by(device, port int, r api.Range, prio int) api.Rule {
	return api.Rule{Device: device, Prio: prio, Kind: api.Forward, R: r, Port: port}
}

// no is a device's rule of another kind.
func no(kind api.RuleKind, device int, r api.Range, prio int) api.Rule {
	return api.Rule{Device: device, Prio: prio, Kind: kind, R: r}
}

// net is a network of rules whose IDs are their places, from 1 on.
func net(t api.Topology, l ...api.Rule) api.Network {
	return with(api.Network{T: t}, l...)
}

// with is a network with other rules, whose IDs are their places, from 1 on, and with a topology of its own.
func with(n api.Network, l ...api.Rule) api.Network {
	m := api.Network{T: top(slices.Clone(n.T.Links), slices.Clone(n.T.Ports)...)}
	for i, r := range l {
		r.ID = i + 1
		m.Rules = append(m.Rules, r)
	}
	return m
}

// twin is a network alike, with lists of its own.
func twin(n api.Network) api.Network {
	return api.Network{T: top(slices.Clone(n.T.Links), slices.Clone(n.T.Ports)...), Rules: slices.Clone(n.Rules)}
}

// ordinary is a right network, far from every limit: 0, 1 and 2 stand in a row, 3 hangs on 1 and is joined to itself, 4 is joined to none.
func ordinary() api.Network {
	t := top([]api.Link{ln(0, 1, 1, 0), ln(2, 0, 1, 1), ln(1, 2, 3, 0), ln(3, 1, 3, 2)}, 2, 4, 2, 3, 1)
	return net(t,
		by(0, 1, rg(100, 199), 5), by(0, 0, rg(200, 209), 5), no(api.Drop, 0, rg(210, 219), 5), by(0, 1, rg(220, 229), 5), no(api.Deny, 0, rg(220, 229), 5),
		by(1, 3, rg(100, 109), 5), no(api.Drop, 1, rg(110, 119), 5), no(api.Deny, 1, rg(120, 129), 5), by(1, 0, rg(140, 149), 5), by(1, 1, rg(150, 179), 5), by(1, 2, rg(180, 199), 5),
		by(2, 1, rg(150, 159), 5), by(2, 0, rg(160, 169), 5), no(api.Drop, 2, rg(170, 173), 5), no(api.Deny, 2, rg(174, 176), 5),
		by(3, 1, rg(180, 184), 5), by(3, 0, rg(185, 189), 5), no(api.Drop, 3, rg(190, 193), 5), no(api.Deny, 3, rg(194, 196), 5),
		by(4, 0, all(), 5),
	)
}

// line are so many devices in a row, each of which forwards all to the one behind it; the last one delivers.
func line(n int) api.Network {
	t := top(nil)
	var l []api.Rule
	for d := range n {
		t.Ports = append(t.Ports, 2)
		if d > 0 {
			t.Links = append(t.Links, ln(d-1, 1, d, 0))
		}
		l = append(l, by(d, 1, all(), 0))
	}
	return net(t, l...)
}

// ring is a line whose last device is joined to the first.
func ring(n int) api.Network {
	x := line(n)
	x.T.Links = append(x.T.Links, ln(n-1, 1, 0, 0))
	return x
}

// most has as many devices, ports, links and rules as there may be.
func most() api.Network {
	t := top(nil, 4, 4, 4, 4, 4, 4, 4, 4)
	for i := range api.MaxLinks {
		t.Links = append(t.Links, ln(i/4, i%4, 7-i/4, (i+1)%4))
	}
	var l []api.Rule
	for i := range uint32(api.MaxRules) {
		l = append(l, by(int(i%8), int(i/8%4), rg(10*i, 10*i+90), int(i%3)))
	}
	return net(t, l...)
}

// far are numbers of devices that no topology has.
func far() []int {
	return []int{math.MinInt, math.MinInt + 1, -1 << 32, -8, -2, -1, 8, 9, 100, 1 << 32, 1<<32 + 1, math.MaxInt}
}

// beyond are numbers of devices that a network has not, the first one above the last among them.
func beyond(n api.Network) []int { return append(far(), len(n.T.Ports)) }

// trace is that of a packet, from a device that there is.
func trace(t *testing.T, n api.Network, device int, a uint32) api.Trace {
	t.Helper()
	x, e := fate.Trace(n, device, a)
	if e != api.OK {
		t.Fatalf("%v: Trace(%d, %d): %v", n, device, a, e)
	}
	return x
}

// cutsOf are the boundaries of some networks' rules, rising, each once.
func cutsOf(l ...api.Network) []uint32 {
	cuts := []uint32{0}
	for _, n := range l {
		for _, r := range n.Rules {
			cuts = append(cuts, r.R.From)
			if r.R.To != last {
				cuts = append(cuts, r.R.To+1)
			}
		}
	}
	slices.Sort(cuts)
	return slices.Compact(cuts)
}

// wantZone asks for a zone, beside which there is no error.
func wantZone(t *testing.T, what string, z []api.Range, e api.Errno, want []api.Range) {
	t.Helper()
	if e != api.OK || !slices.Equal(z, want) || !zone.Right(z) {
		t.Fatalf("%s: %v, %v; want %v", what, z, e, want)
	}
}

// wantNone asks for ErrDevice, beside which there is no zone.
func wantNone(t *testing.T, what string, z []api.Range, e api.Errno) {
	t.Helper()
	if e != api.ErrDevice || len(z) != 0 {
		t.Fatalf("%s: %v, %v; want ErrDevice", what, z, e)
	}
}

// wantHas asks of addresses whether a right zone has those that it should, and no others.
func wantHas(t *testing.T, what string, z []api.Range, e api.Errno, asked []uint32, should func(a uint32) bool) {
	t.Helper()
	if e != api.OK || !zone.Right(z) {
		t.Fatalf("%s: %v, %v", what, z, e)
	}
	for _, a := range asked {
		if has := slices.ContainsFunc(z, func(r api.Range) bool { return r.From <= a && a <= r.To }); has != should(a) {
			t.Fatalf("%s: %v has %d: %v", what, z, a, has)
		}
	}
}

// mixer draws numbers, the same ones each time.
type mixer uint64

// below is a number below n.
func (x *mixer) below(n int) int {
	*x = *x*6364136223846793005 + 1442695040888963407
	return int(uint64(*x) >> 33 % uint64(n))
}

// addresses are few about both ends of all addresses, and one in the midst.
func addresses() []uint32 {
	l := []uint32{1 << 31}
	for i := range uint32(24) {
		l = append(l, i-8)
	}
	return l
}

// asked are the boundaries of some networks, their neighbours, the ends of all addresses, and drawn addresses.
func (x *mixer) asked(l ...api.Network) []uint32 {
	some := append(addresses(), 0, 1, last-1, last)
	for _, a := range cutsOf(l...) {
		some = append(some, a-1, a, a+1)
	}
	for range 20 {
		some = append(some, uint32(x.below(1<<16)<<16|x.below(1<<16)), uint32(x.below(400)))
	}
	return some
}

// topology is a right one: any ports, of which any two are joined by a link.
func (x *mixer) topology() api.Topology {
	t := top(nil)
	var free []api.Port
	for d := range 1 + x.below(api.MaxDevices) {
		t.Ports = append(t.Ports, 1+x.below(api.MaxPorts))
		for p := range t.Ports[d] {
			free = append(free, api.Port{Device: d, Port: p})
		}
	}
	for i := range free {
		k := i + x.below(len(free)-i)
		free[i], free[k] = free[k], free[i]
	}
	// Mostly many are joined, so that packets go far.
	for n := max(x.below(len(free)/2+1), x.below(len(free)/2+1)); n > 0; n-- {
		t.Links = append(t.Links, api.Link{A: free[0], B: free[1]})
		free = free[2:]
	}
	return t
}

// rule is a right one that fits, but without an ID, of few addresses and Prios, so that many rules take the same; most forward.
func (x *mixer) rule(t api.Topology) api.Rule {
	about := addresses()
	a, b := about[x.below(len(about))], about[x.below(len(about))]
	r := api.Rule{Device: x.below(len(t.Ports)), Prio: x.below(4), Kind: api.RuleKind(max(0, x.below(9)-5)), R: rg(min(a, b), max(a, b))}
	if r.Kind == api.Forward {
		r.Port = x.below(t.Ports[r.Device])
		if x.below(2) == 0 {
			r.Prio, r.R = 0, all()
		}
	}
	return r
}

// network is a right one.
func (x *mixer) network() api.Network {
	n := api.Network{T: x.topology()}
	id := 0
	for range x.below(api.MaxRules + 1) {
		r := x.rule(n.T)
		id += 1 + x.below(5)
		r.ID = id
		n.Rules = append(n.Rules, r)
	}
	return n
}

// other is a right network that differs from one in a few rules, or in its links.
func (x *mixer) other(n api.Network) api.Network {
	m := twin(n)
	for range 1 + x.below(3) {
		switch k := len(m.Rules); {
		case k == 0 || x.below(8) == 0:
			m.T.Links = m.T.Links[:x.below(len(m.T.Links)+1)]
		case x.below(3) == 0:
			i := x.below(k)
			m.Rules = slices.Delete(m.Rules, i, i+1)
		default:
			i := x.below(k)
			id := m.Rules[i].ID
			m.Rules[i] = x.rule(m.T)
			m.Rules[i].ID = id
		}
	}
	return m
}

// drawn are so many networks.
func drawn(many int) []api.Network {
	var l []api.Network
	for seed := range many {
		mix := mixer(seed)
		l = append(l, mix.network())
	}
	return l
}

// rights are right networks: least ones, ordinary ones, the greatest, and drawn ones.
func rights() []api.Network {
	l := []api.Network{net(top(nil, 1)), net(top([]api.Link{}, 4), []api.Rule{}...), net(top([]api.Link{ln(0, 0, 0, 1)}, 2), by(0, 1, all(), 0)), line(1), line(2), line(8), ring(2), ring(8), ordinary(), most()}
	return append(l, drawn(30)...)
}

// tally counts drawn packets by what becomes of them.
type tally struct {
	first, behind [5]int // by fates: at the first device, and behind others
	same, differ  int    // in another network
}

// The drawn packets fare in all the ways of which the chapter speaks, often enough for the promises to be seen; all networks are right.
func TestDrawn(t *testing.T) {
	var c tally
	for seed, n := range drawn(200) {
		mix := mixer(seed)
		m := mix.other(n)
		if !fate.Right(n) || !fate.Right(m) {
			t.Fatalf("not right: %v; %v", n, m)
		}
		for d := range n.T.Ports {
			for _, a := range addresses() {
				x := trace(t, n, d, a)
				if len(x.Devices) == 1 || x.Fate == api.Looped && len(x.Devices) == 2 {
					c.first[x.Fate]++
				} else {
					c.behind[x.Fate]++
				}
				if fate.Same(x, trace(t, m, d, a)) {
					c.same++
				} else {
					c.differ++
				}
			}
		}
	}
	if min(slices.Min(c.first[:]), slices.Min(c.behind[:]), c.same, c.differ) < 100 {
		t.Errorf("too few: %+v", c)
	}
	for _, n := range rights() {
		if !fate.Right(n) {
			t.Errorf("not right: %v", n)
		}
	}
}
