package topo

import (
	"math"
	"slices"
	"testing"

	"waystone/api"
)

// wantRight asks Right of a topology.
func wantRight(t *testing.T, what string, x api.Topology, want bool) {
	t.Helper()
	if Right(x) != want {
		t.Errorf("%s: %v: right is not %v", what, x, want)
	}
}

// P8.1, O1: ordinary topologies, the least and the greatest ones are right.
func TestRight(t *testing.T) {
	for _, x := range rights() {
		wantRight(t, "right", x, true)
	}
}

// P8.1, O1: there are 1 to 8 devices.
func TestRightDevices(t *testing.T) {
	for n := range 20 {
		x := of(nil, slices.Repeat([]int{1}, n)...)
		wantRight(t, "devices", x, n >= 1 && n <= 8)
		x.Links = []api.Link{}
		wantRight(t, "devices, links not nil", x, n >= 1 && n <= 8)
	}
	wantRight(t, "nothing", api.Topology{}, false)
	wantRight(t, "no devices", of(nil, []int{}...), false)
	wantRight(t, "links of no devices", of([]api.Link{ln(0, 0, 0, 1)}), false)
	wantRight(t, "a line of 8", line(8), true)
	wantRight(t, "a line of 9", line(9), false)
}

// P8.1, O1: a device has 1 to 4 ports, wherever it stands.
func TestRightPorts(t *testing.T) {
	for n := 1; n <= 8; n++ {
		for at := range n {
			for _, ports := range []int{math.MinInt, -1 << 32, -4, -1, 0, 1, 2, 3, 4, 5, 6, 1 << 32, 1<<32 + 1, math.MaxInt} {
				x := of(nil, slices.Repeat([]int{2}, n)...)
				x.Ports[at] = ports
				wantRight(t, "ports", x, ports >= 1 && ports <= 4)
			}
		}
	}
}

// P8.1, O1: there are at most 16 links; and no room is left for more of unlike ports.
func TestRightLinks(t *testing.T) {
	for n := range api.MaxLinks + 1 {
		x := full()
		x.Links = x.Links[:n]
		wantRight(t, "links", x, true)
	}
	x := full()
	x.Links = append(x.Links, x.Links[0])
	wantRight(t, "one link too many", x, false)
	x.Links[16] = ln(0, 0, 0, 1)
	wantRight(t, "one link too many, of ports of one device", x, false)
	x.Links = slices.Repeat(x.Links, 1000)
	wantRight(t, "many links too many", x, false)
}

// P8.1, O1: a link's ports are such as there are, on either side.
func TestRightLinkPorts(t *testing.T) {
	for _, turned := range []bool{false, true} {
		for _, at := range []int{0, 1, 2} {
			for _, c := range []struct {
				device, port int
				want         bool
			}{
				{0, 0, true}, {4, 0, true}, {0, 1, false}, {2, 0, true}, {2, 3, true}, {3, 2, true}, // 0, 1 is in a link already
				{-1, 0, false}, {5, 0, false}, {8, 0, false}, {math.MinInt, 0, false}, {math.MaxInt, 0, false}, {1<<32 + 2, 0, false},
				{2, -1, false}, {2, 4, false}, {2, math.MinInt, false}, {2, math.MaxInt, false}, {2, 1 << 32, false},
				{0, 2, false}, {3, 3, false}, {4, 1, false}, {4, 2, false}, {4, -1, false}, {-1, -1, false}, {5, 4, false},
			} {
				x := ordinary()
				l := api.Link{A: pt(2, 1), B: pt(c.device, c.port)}
				if turned {
					l.A, l.B = l.B, l.A
				}
				x.Links = slices.Insert(x.Links, at, l)
				wantRight(t, "a link's port", x, c.want)
			}
		}
	}
}

// P8.1, O1: no port is in two links, on like sides or on unlike ones, whichever links these are.
func TestRightTwice(t *testing.T) {
	for i := range 16 {
		for k := range 16 {
			if i == k {
				continue
			}
			x, y, u, v := full(), full(), full(), full()
			x.Links[i].A = x.Links[k].A
			y.Links[i].A = y.Links[k].B
			u.Links[i].B = u.Links[k].A
			v.Links[i].B = v.Links[k].B
			for _, z := range []api.Topology{x, y, u, v} {
				wantRight(t, "a port in two links", z, false)
			}
			w := full()
			w.Links[i] = w.Links[k]
			wantRight(t, "a link twice", w, false)
			w.Links[i].A, w.Links[i].B = w.Links[i].B, w.Links[i].A
			wantRight(t, "a link twice, turned round", w, false)
		}
	}
}

// P8.1, O1: no port is joined to itself; two of one device may be joined.
func TestRightSelf(t *testing.T) {
	for _, p := range allPorts(full()) {
		for n := range 2 {
			x := full()
			x.Links = nil
			if n == 1 { // another link does not make up for it
				x.Links = []api.Link{ln(p.Device^1, 0, p.Device^1, 1)}
			}
			x.Links = append(x.Links, api.Link{A: p, B: p})
			wantRight(t, "a port with itself", x, false)
			for port := range 4 {
				x.Links[n].B.Port = port
				wantRight(t, "two ports of one device", x, port != p.Port)
			}
		}
	}
}

// P8.1, O1: every topology of at most two devices, with few ports, and at most two links about these.
func TestRightSmall(t *testing.T) {
	var about []api.Port
	for d := -1; d <= 2; d++ {
		for p := -1; p <= 2; p++ {
			about = append(about, pt(d, p))
		}
	}
	var links []api.Link
	for _, a := range about {
		for _, b := range about {
			links = append(links, api.Link{A: a, B: b})
		}
	}
	for _, ports := range [][]int{nil, {1}, {2}, {0, 2}, {1, 2}, {2, 1}, {2, 5}} {
		for i, x := range links {
			if y := of([]api.Link{x}, ports...); Right(y) != isRight(y) {
				t.Fatalf("%v: %v", y, !isRight(y))
			}
			for _, z := range links[i%3:] {
				if y := of([]api.Link{x, z}, ports...); Right(y) != isRight(y) {
					t.Fatalf("%v: %v", y, !isRight(y))
				}
			}
		}
	}
}

// P8.1: any topology at all, made of bytes.
func FuzzRight(f *testing.F) {
	f.Add([]byte{2, 2, 1}, []byte{0, 1, 1, 0})
	f.Add([]byte{4, 4}, []byte{0, 0, 1, 0, 1, 0, 0, 1})
	f.Add([]byte{1, 0, 5}, []byte{255, 0, 0, 0})
	f.Fuzz(func(t *testing.T, ports, links []byte) {
		x := api.Topology{}
		for _, n := range ports {
			x.Ports = append(x.Ports, int(int8(n)))
		}
		for ; len(links) >= 4; links = links[4:] {
			x.Links = append(x.Links, ln(int(int8(links[0])), int(int8(links[1])), int(int8(links[2])), int(int8(links[3]))))
		}
		if Right(x) != isRight(x) {
			t.Fatalf("%v: %v", x, !isRight(x))
		}
		if isRight(x) {
			wantPorts(t, x)
			wantPaths(t, x)
		} else {
			askAll(x)
		}
	})
}
