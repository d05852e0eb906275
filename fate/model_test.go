package fate

import (
	"cmp"
	"math"
	"slices"
	"testing"

	"waystone/api"
)

const last = api.MaxAddr

// rg is a range.
func rg(from, to uint32) api.Range { return api.Range{From: from, To: to} }

// all are all addresses.
func all() api.Range { return rg(0, last) }

// pt is a port.
func pt(device, port int) api.Port { return api.Port{Device: device, Port: port} }

// ln joins the port p of the device d to the port q of the device e.
func ln(d, p, e, q int) api.Link { return api.Link{A: pt(d, p), B: pt(e, q)} }

// top is a topology of devices with so many ports.
func top(links []api.Link, ports ...int) api.Topology {
	return api.Topology{Ports: ports, Links: links}
}

// by is a device's rule that forwards a range by a port.
func by(device, port int, r api.Range, prio int) api.Rule {
	return api.Rule{Device: device, Prio: prio, Kind: api.Forward, R: r, Port: port}
}

// no is a device's rule of another kind.
func no(kind api.RuleKind, device int, r api.Range, prio int) api.Rule {
	return api.Rule{Device: device, Prio: prio, Kind: kind, R: r}
}

// net is a network of rules whose IDs are their places, from 1 on.
func net(t api.Topology, l ...api.Rule) api.Network {
	n := api.Network{T: t}
	for i, r := range l {
		r.ID = i + 1
		n.Rules = append(n.Rules, r)
	}
	return n
}

// tr is a trace of a packet that does not leave.
func tr(f api.Fate, devices ...int) api.Trace { return api.Trace{Devices: devices, Fate: f} }

// leaves is a trace of a packet that leaves its last device by a port.
func leaves(port int, devices ...int) api.Trace {
	return api.Trace{Devices: devices, Fate: api.Delivered, Out: pt(devices[len(devices)-1], port)}
}

// ordinary is a right network, far from every limit: 0, 1 and 2 stand in a row, 3 hangs on 1 and is joined to itself, 4 is joined to none.
func ordinary() api.Network {
	t := top([]api.Link{ln(0, 1, 1, 0), ln(2, 0, 1, 1), ln(1, 2, 3, 0), ln(3, 1, 3, 2)}, 2, 4, 2, 3, 1)
	return net(t,
		by(0, 1, rg(100, 199), 5), by(0, 0, rg(200, 209), 5), no(api.Drop, 0, rg(210, 219), 5), by(0, 1, rg(220, 229), 5), no(api.Deny, 0, rg(220, 229), 5),
		by(1, 3, rg(100, 109), 5), no(api.Drop, 1, rg(110, 119), 5), no(api.Deny, 1, rg(120, 129), 5), by(1, 0, rg(140, 149), 5), by(1, 1, rg(150, 179), 5), by(1, 2, rg(180, 199), 5),
		by(2, 1, rg(150, 159), 5), by(2, 0, rg(160, 169), 5), no(api.Drop, 2, rg(170, 173), 5), no(api.Deny, 2, rg(174, 176), 5),
		by(3, 1, rg(180, 184), 5), by(3, 0, rg(185, 189), 5), no(api.Drop, 3, rg(190, 193), 5), no(api.Deny, 3, rg(194, 196), 5),
		by(4, 0, all(), 5),
	)
}

// line are so many devices in a row, each of which forwards all to the one behind it; the last one delivers.
func line(n int) api.Network {
	t := top(nil)
	var l []api.Rule
	for d := range n {
		t.Ports = append(t.Ports, 2)
		if d > 0 {
			t.Links = append(t.Links, ln(d-1, 1, d, 0))
		}
		l = append(l, by(d, 1, all(), 0))
	}
	return net(t, l...)
}

// ring is a line whose last device is joined to the first.
func ring(n int) api.Network {
	x := line(n)
	x.T.Links = append(x.T.Links, ln(n-1, 1, 0, 0))
	return x
}

// upTo are the numbers from one on, up to another one, that among them.
func upTo(from, to int) []int {
	var l []int
	for d := from; d <= to; d++ {
		l = append(l, d)
	}
	return l
}

// far are numbers of devices that no topology has.
func far() []int {
	return []int{math.MinInt, math.MinInt + 1, -1 << 32, -8, -2, -1, 8, 9, 100, 1 << 32, 1<<32 + 1, math.MaxInt}
}

// copied has lists of its own.
func copied(n api.Network) api.Network {
	return api.Network{T: top(slices.Clone(n.T.Links), slices.Clone(n.T.Ports)...), Rules: slices.Clone(n.Rules)}
}

// firstOf is, of a device's rules of two kinds that take an address, the one that is gone by, put in order.
func firstOf(n api.Network, device int, a uint32, one, other api.RuleKind) (api.Rule, bool) {
	l := slices.DeleteFunc(slices.Clone(n.Rules), func(r api.Rule) bool {
		return r.Device != device || r.Kind != one && r.Kind != other || a < r.R.From || a > r.R.To
	})
	if len(l) == 0 {
		return api.Rule{}, false
	}
	slices.SortFunc(l, func(x, y api.Rule) int { return cmp.Or(cmp.Compare(y.Prio, x.Prio), cmp.Compare(x.ID, y.ID)) })
	return l[0], true
}

// joinedTo are the ports to which a port is joined.
func joinedTo(t api.Topology, p api.Port) []api.Port {
	var l []api.Port
	for _, k := range t.Links {
		if k.A == p {
			l = append(l, k.B)
		}
		if k.B == p {
			l = append(l, k.A)
		}
	}
	return l
}

// follow is a packet's trace behind the devices to which it has come.
func follow(n api.Network, came []int, device int, a uint32) api.Trace {
	devices := append(slices.Clone(came), device)
	if slices.Contains(came, device) {
		return tr(api.Looped, devices...)
	}
	if r, is := firstOf(n, device, a, api.Permit, api.Deny); is && r.Kind == api.Deny {
		return tr(api.Denied, devices...)
	}
	r, is := firstOf(n, device, a, api.Forward, api.Drop)
	switch {
	case !is:
		return tr(api.Lost, devices...)
	case r.Kind == api.Drop:
		return tr(api.Dropped, devices...)
	}
	to := joinedTo(n.T, pt(device, r.Port))
	if len(to) == 0 {
		return leaves(r.Port, devices...)
	}
	return follow(n, devices, to[0].Device, a)
}

// alike tells field by field whether two traces are.
func alike(x, y api.Trace) bool {
	return slices.Equal(x.Devices, y.Devices) && x.Fate == y.Fate && x.Out.Device == y.Out.Device && x.Out.Port == y.Out.Port
}

// mixer draws numbers, the same ones each time.
type mixer uint64

// below is a number below n.
func (x *mixer) below(n int) int {
	*x = *x*6364136223846793005 + 1442695040888963407
	return int(uint64(*x) >> 33 % uint64(n))
}

// addresses are few about both ends of all addresses, and one in the midst.
func addresses() []uint32 {
	l := []uint32{1 << 31}
	for i := range uint32(24) {
		l = append(l, i-8)
	}
	return l
}

// topology is a right one: any ports, of which any two are joined by a link.
func (x *mixer) topology() api.Topology {
	t := top(nil)
	var free []api.Port
	for d := range 1 + x.below(api.MaxDevices) {
		t.Ports = append(t.Ports, 1+x.below(api.MaxPorts))
		for p := range t.Ports[d] {
			free = append(free, pt(d, p))
		}
	}
	for i := range free {
		k := i + x.below(len(free)-i)
		free[i], free[k] = free[k], free[i]
	}
	// Mostly many are joined, so that packets go far.
	for n := max(x.below(len(free)/2+1), x.below(len(free)/2+1)); n > 0; n-- {
		t.Links = append(t.Links, api.Link{A: free[0], B: free[1]})
		free = free[2:]
	}
	return t
}

// network is a right one, of few addresses and Prios, so that many rules take the same; most of them forward.
func (x *mixer) network() api.Network {
	n := api.Network{T: x.topology()}
	id := 0
	about := addresses()
	for range x.below(api.MaxRules + 1) {
		id += 1 + x.below(5)
		a, b := about[x.below(len(about))], about[x.below(len(about))]
		r := api.Rule{ID: id, Device: x.below(len(n.T.Ports)), Prio: x.below(4), R: rg(min(a, b), max(a, b))}
		r.Kind = api.RuleKind(max(0, x.below(9)-5))
		if r.Kind == api.Forward {
			r.Port = x.below(n.T.Ports[r.Device])
			if x.below(2) == 0 {
				r.Prio, r.R = 0, all()
			}
		}
		n.Rules = append(n.Rules, r)
	}
	return n
}

// drawn are so many networks.
func drawn(many int) []api.Network {
	var l []api.Network
	for seed := range many {
		mix := mixer(seed)
		l = append(l, mix.network())
	}
	return l
}

// rights are right networks: least ones, ordinary ones, the greatest, and drawn ones.
func rights() []api.Network {
	l := []api.Network{net(top(nil, 1)), net(top([]api.Link{}, 4), []api.Rule{}...), net(top([]api.Link{ln(0, 0, 0, 1)}, 2), by(0, 1, all(), 0)), line(1), line(2), line(8), ring(2), ring(8), ordinary(), most()}
	return append(l, drawn(40)...)
}

// most has as many devices, ports, links and rules as there may be.
func most() api.Network {
	t := top(nil, 4, 4, 4, 4, 4, 4, 4, 4)
	for i := range api.MaxLinks {
		t.Links = append(t.Links, ln(i/4, i%4, 7-i/4, (i+1)%4))
	}
	var l []api.Rule
	for i := range uint32(api.MaxRules) {
		l = append(l, by(int(i%8), int(i/8%4), rg(10*i, 10*i+90), int(i%3)))
	}
	return net(t, l...)
}

// tally counts drawn packets by what becomes of them.
type tally struct {
	first, behind    [5]int // by fates: at the first device, and behind others
	toFirst, toMidst int    // of looped ones: to which device they came once more
	toItself, long   int
}

// count counts one.
func (c *tally) count(t api.Trace) {
	k := len(t.Devices)
	if k == 1 || t.Fate == api.Looped && k == 2 {
		c.first[t.Fate]++
	} else {
		c.behind[t.Fate]++
	}
	if k > 4 {
		c.long++
	}
	if t.Fate != api.Looped || k == 2 {
		return
	}
	switch slices.Index(t.Devices, t.Devices[k-1]) {
	case 0:
		c.toFirst++
	case k - 2:
		c.toItself++
	default:
		c.toMidst++
	}
}

// The drawn packets fare in all the ways of which the chapter speaks, often enough for the promises to be seen.
func TestDrawn(t *testing.T) {
	var c tally
	for _, n := range drawn(400) {
		for d := range n.T.Ports {
			for _, a := range addresses() {
				c.count(follow(n, nil, d, a))
			}
		}
	}
	if min(slices.Min(c.first[:]), slices.Min(c.behind[:]), c.toFirst, c.toMidst, c.toItself, c.long) < 100 {
		t.Errorf("too few: %+v", c)
	}
}
