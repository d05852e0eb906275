package topo

import (
	"slices"
	"testing"

	"waystone/api"
)

// wantNext asks Next for a port.
func wantNext(t *testing.T, x api.Topology, p, want api.Port) {
	t.Helper()
	if q, is := Next(x, p); !is || q != want {
		t.Errorf("%v: Next(%v): %v, %v; want %v", x, p, q, is, want)
	}
}

// wantNoNext asks Next of a port that is joined to none.
func wantNoNext(t *testing.T, x api.Topology, p api.Port) {
	t.Helper()
	if q, is := Next(x, p); is || q != (api.Port{}) {
		t.Errorf("%v: Next(%v): %v, %v; want none", x, p, q, is)
	}
}

// wantEdges asks Edges for ports.
func wantEdges(t *testing.T, x api.Topology, want ...api.Port) {
	t.Helper()
	if l := Edges(x); !slices.Equal(l, want) {
		t.Errorf("%v: Edges: %v; want %v", x, l, want)
	}
}

// P8.1, O1: every port that there is, and none beside them.
func TestHas(t *testing.T) {
	for _, x := range rights() {
		for _, p := range allPorts(x) {
			if !Has(x, p) {
				t.Errorf("%v has not %v", x, p)
			}
		}
		for _, p := range farPorts(x) {
			if Has(x, p) {
				t.Errorf("%v has %v", x, p)
			}
		}
	}
}

// P8.1, O1: a device's ports are its own, whatever another one has.
func TestHasOwn(t *testing.T) {
	x := of(nil, 1, 4, 2, 3)
	for device := -2; device < 7; device++ {
		for port := -2; port < 7; port++ {
			want := port >= 0 && (device == 0 && port < 1 || device == 1 && port < 4 || device == 2 && port < 2 || device == 3 && port < 3)
			if Has(x, pt(device, port)) != want {
				t.Errorf("Has(%d, %d) is not %v", device, port, want)
			}
		}
	}
}

// P8.1, O1: both ends of a link are joined, ports of one device too; other ports, and those that there are not, to none.
func TestNext(t *testing.T) {
	x := ordinary()
	wantNext(t, x, pt(0, 1), pt(1, 0))
	wantNext(t, x, pt(1, 0), pt(0, 1))
	wantNext(t, x, pt(2, 2), pt(1, 2))
	wantNext(t, x, pt(1, 2), pt(2, 2))
	wantNext(t, x, pt(3, 0), pt(3, 1))
	wantNext(t, x, pt(3, 1), pt(3, 0))
	for _, p := range []api.Port{pt(0, 0), pt(1, 1), pt(2, 0), pt(2, 1), pt(2, 3), pt(3, 2), pt(4, 0)} {
		wantNoNext(t, x, p)
	}
	wantNext(t, of([]api.Link{ln(1, 0, 0, 0)}, 1, 1), pt(0, 0), pt(1, 0))
	wantNext(t, of([]api.Link{ln(0, 3, 0, 0)}, 4), pt(0, 0), pt(0, 3))
	for _, y := range rights() {
		for _, p := range farPorts(y) {
			wantNoNext(t, y, p)
		}
	}
}

// P8.1, O1: with as many links as may be, each joins its own ports.
func TestNextFull(t *testing.T) {
	x := full()
	for _, l := range x.Links {
		wantNext(t, x, l.A, l.B)
		wantNext(t, x, l.B, l.A)
	}
}

// P8.1, O1: without links, with some, with every port joined; by device, then by port.
func TestEdges(t *testing.T) {
	wantEdges(t, of(nil, 1), pt(0, 0))
	wantEdges(t, of(nil, 3, 1, 2), pt(0, 0), pt(0, 1), pt(0, 2), pt(1, 0), pt(2, 0), pt(2, 1))
	wantEdges(t, of([]api.Link{}, 1, 2), pt(0, 0), pt(1, 0), pt(1, 1))
	wantEdges(t, ordinary(), pt(0, 0), pt(1, 1), pt(2, 0), pt(2, 1), pt(2, 3), pt(3, 2), pt(4, 0))
	wantEdges(t, of([]api.Link{ln(1, 1, 0, 0)}, 2, 2), pt(0, 1), pt(1, 0))
	wantEdges(t, line(4), pt(0, 0), pt(3, 1))
	wantEdges(t, line(8), pt(0, 0), pt(7, 1))
	wantEdges(t, of([]api.Link{ln(0, 1, 0, 0)}, 2))
	wantEdges(t, of([]api.Link{ln(0, 0, 1, 0)}, 1, 1))
	wantEdges(t, ring(8))
	wantEdges(t, full())
	bare := full()
	bare.Links = nil
	wantEdges(t, bare, allPorts(bare)...)
	one := full()
	one.Links = slices.Delete(one.Links, 9, 10) // of the ports 2, 1 and 5, 1
	wantEdges(t, one, pt(2, 1), pt(5, 1))
}

// P8.1 and P8.2 (both ways), over drawn topologies, with P8.1's other half: each port is joined, or one of Edges.
func TestBothWays(t *testing.T) {
	for seed := range 500 {
		mix := mixer(seed)
		x := mix.topology()
		if !Right(x) {
			t.Fatalf("seed %d: not right: %v", seed, x)
		}
		wantPorts(t, x)
	}
	for _, x := range rights() {
		wantPorts(t, x)
	}
}

// wantPorts asks of a right topology's ports where they are joined, back too, and which are edges.
func wantPorts(t *testing.T, x api.Topology) {
	t.Helper()
	var edges []api.Port
	for _, p := range allPorts(x) {
		q, is := Next(x, p)
		if want, was := other(x, p); q != want || is != was {
			t.Fatalf("%v: Next(%v): %v, %v; want %v, %v", x, p, q, is, want, was)
		}
		if !is {
			edges = append(edges, p)
			continue
		}
		if back, is := Next(x, q); !is || back != p || q == p || !Has(x, q) {
			t.Fatalf("%v: from %v to %v, and back to %v, %v", x, p, q, back, is)
		}
	}
	if l := Edges(x); !slices.Equal(l, edges) {
		t.Fatalf("%v: Edges: %v; want %v", x, l, edges)
	}
}
