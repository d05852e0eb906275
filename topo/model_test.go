package topo

import (
	"math"
	"slices"
	"testing"

	"waystone/api"
)

// pt is a port.
func pt(device, port int) api.Port { return api.Port{Device: device, Port: port} }

// ln joins the port p of the device d to the port q of the device e.
func ln(d, p, e, q int) api.Link { return api.Link{A: pt(d, p), B: pt(e, q)} }

// of is a topology of devices with so many ports.
func of(links []api.Link, ports ...int) api.Topology {
	return api.Topology{Ports: ports, Links: links}
}

// ordinary is a right topology, far from every limit: 0, 1 and 2 stand in a row, 3 is joined to itself, 4 to none.
func ordinary() api.Topology {
	return of([]api.Link{ln(0, 1, 1, 0), ln(2, 2, 1, 2), ln(3, 0, 3, 1)}, 2, 3, 4, 3, 1)
}

// line are so many devices with two ports each, each joined to the one behind it.
func line(n int) api.Topology {
	t := of(nil)
	for d := range n {
		t.Ports = append(t.Ports, 2)
		if d > 0 {
			t.Links = append(t.Links, ln(d-1, 1, d, 0))
		}
	}
	return t
}

// ring is a line whose last device is joined to the first.
func ring(n int) api.Topology {
	t := line(n)
	t.Links = append(t.Links, ln(n-1, 1, 0, 0))
	return t
}

// full has as many devices, ports and links as there may be: every port is joined.
func full() api.Topology {
	t := of(nil, 4, 4, 4, 4, 4, 4, 4, 4)
	for i := range api.MaxLinks {
		t.Links = append(t.Links, ln(i/4, i%4, 7-i/4, i%4))
	}
	return t
}

// copied has lists of its own.
func copied(t api.Topology) api.Topology {
	return of(slices.Clone(t.Links), slices.Clone(t.Ports)...)
}

// ends are numbers that no device and no port has.
func ends() []int {
	return []int{math.MinInt, -1 << 32, -4, -1, 8, 9, 1 << 32, 1<<32 + 1, math.MaxInt}
}

// allPorts are a topology's ports, by device, then by port.
func allPorts(t api.Topology) []api.Port {
	var l []api.Port
	for d, n := range t.Ports {
		for p := range n {
			l = append(l, pt(d, p))
		}
	}
	return l
}

// farPorts are ports that a topology has not: far ones, and those beside its own.
func farPorts(t api.Topology) []api.Port {
	var l []api.Port
	for _, i := range ends() {
		for _, k := range append(ends(), 0, 1) {
			l = append(l, pt(i, k), pt(k, i))
		}
	}
	for d, n := range t.Ports {
		l = append(l, pt(d, n), pt(d, n+1), pt(d, -1))
	}
	for p := range api.MaxPorts {
		l = append(l, pt(len(t.Ports), p), pt(-1, p))
	}
	return l
}

// isRight tells by counting whether a topology is right.
func isRight(t api.Topology) bool {
	if len(t.Ports) == 0 || len(t.Ports) > 8 || len(t.Links) > 16 {
		return false
	}
	for _, n := range t.Ports {
		if n != 1 && n != 2 && n != 3 && n != 4 {
			return false
		}
	}
	var ends []api.Port
	for _, l := range t.Links {
		ends = append(ends, l.A, l.B)
	}
	had := allPorts(t)
	for _, p := range ends {
		i := slices.Index(had, p)
		if i < 0 {
			return false
		}
		had = slices.Delete(had, i, i+1)
	}
	return true
}

// other is where the links join a port to, looked for one by one.
func other(t api.Topology, p api.Port) (api.Port, bool) {
	for _, l := range t.Links {
		if l.A == p {
			return l.B, true
		}
		if l.B == p {
			return l.A, true
		}
	}
	return api.Port{}, false
}

// paths tell of each two devices whether one comes from the one to the other.
func paths(t api.Topology) [][]bool {
	n := len(t.Ports)
	m := make([][]bool, n)
	for a := range m {
		m[a] = make([]bool, n)
		m[a][a] = true
	}
	for _, l := range t.Links {
		m[l.A.Device][l.B.Device], m[l.B.Device][l.A.Device] = true, true
	}
	for by := range n {
		for a := range n {
			for b := range n {
				m[a][b] = m[a][b] || m[a][by] && m[by][b]
			}
		}
	}
	return m
}

// mixer draws numbers, the same ones each time.
type mixer uint64

// below is a number below n.
func (x *mixer) below(n int) int {
	*x = *x*6364136223846793005 + 1442695040888963407
	return int(uint64(*x) >> 33 % uint64(n))
}

// topology is a right one: any ports, of which any two are joined by a link, this way round or that one.
func (x *mixer) topology() api.Topology {
	t := of(nil)
	for range 1 + x.below(api.MaxDevices) {
		t.Ports = append(t.Ports, 1+x.below(api.MaxPorts))
	}
	free := allPorts(t)
	for i := range free {
		k := i + x.below(len(free)-i)
		free[i], free[k] = free[k], free[i]
	}
	for n := x.below(len(free)/2 + 1); n > 0; n-- {
		t.Links = append(t.Links, api.Link{A: free[0], B: free[1]})
		free = free[2:]
	}
	return t
}

// rights are right topologies: least ones, ordinary ones, the greatest, and drawn ones.
func rights() []api.Topology {
	l := []api.Topology{
		of(nil, 1), of([]api.Link{}, 4), of(nil, 1, 1), of([]api.Link{ln(0, 0, 1, 0)}, 1, 1), of([]api.Link{ln(0, 1, 0, 0)}, 2),
		ordinary(), line(2), line(8), ring(3), ring(8), full(),
	}
	for seed := range 60 {
		mix := mixer(seed)
		l = append(l, mix.topology())
	}
	return l
}

// The drawn topologies are such as the chapter speaks of, and enough of them are joined, or not, for the promises to be seen.
func TestDrawn(t *testing.T) {
	joined, edges, apart, together := 0, 0, 0, 0
	for _, x := range rights() {
		if !isRight(x) {
			t.Fatalf("not right: %v", x)
		}
		for _, p := range allPorts(x) {
			if _, is := other(x, p); is {
				joined++
			} else {
				edges++
			}
		}
		for a, row := range paths(x) {
			for b, is := range row {
				if is && a != b {
					together++
				} else if !is {
					apart++
				}
			}
		}
	}
	if min(joined, edges, apart, together) < 200 {
		t.Errorf("joined %d, edges %d, apart %d, together %d", joined, edges, apart, together)
	}
}
