package topo

import (
	"math"
	"slices"
	"testing"

	"waystone/api"
)

// wantSame asks Same of two, both ways round.
func wantSame(t *testing.T, what string, x, y api.Topology, want bool) {
	t.Helper()
	if Same(x, y) != want || Same(y, x) != want {
		t.Errorf("%s: %v, %v: same is not %v", what, x, y, want)
	}
}

// P8.1, O1: a topology is like itself and its copy, and like no other one.
func TestSame(t *testing.T) {
	all := append(rights(), wrongs()...)
	for i, x := range all {
		wantSame(t, "itself", x, x, true)
		wantSame(t, "its copy", x, copied(x), true)
		for _, y := range all[:i] {
			wantSame(t, "two", x, y, slices.Equal(x.Ports, y.Ports) && slices.Equal(x.Links, y.Links))
		}
	}
}

// P8.1, O1: one number of ports tells two apart.
func TestSamePorts(t *testing.T) {
	for at := range 5 {
		for _, n := range []int{math.MinInt, -1, 0, 1, 2, 3, 4, 5, math.MaxInt} {
			x := ordinary()
			was := x.Ports[at]
			x.Ports[at] = n
			wantSame(t, "a number of ports", x, ordinary(), n == was)
		}
	}
}

// P8.1, O1: one field of one link tells two apart.
func TestSameFields(t *testing.T) {
	for at := range 3 {
		for _, field := range []func(l *api.Link) *int{
			func(l *api.Link) *int { return &l.A.Device },
			func(l *api.Link) *int { return &l.A.Port },
			func(l *api.Link) *int { return &l.B.Device },
			func(l *api.Link) *int { return &l.B.Port },
		} {
			for _, by := range []int{-1, 1, 7, 1 << 32, math.MinInt} {
				x := ordinary()
				*field(&x.Links[at]) += by
				wantSame(t, "a field", x, ordinary(), false)
			}
		}
	}
}

// P8.1, O1: the links' order, and their two ends, tell two apart.
func TestSameOrder(t *testing.T) {
	for i := range 3 {
		for k := range i {
			x := ordinary()
			x.Links[i], x.Links[k] = x.Links[k], x.Links[i]
			wantSame(t, "the order of links", x, ordinary(), false)
		}
		x := ordinary()
		x.Links[i].A, x.Links[i].B = x.Links[i].B, x.Links[i].A
		wantSame(t, "a link turned round", x, ordinary(), false)
	}
	wantSame(t, "the order of devices", of(nil, 1, 2), of(nil, 2, 1), false)
}

// P8.1, O1: a shorter one is not like a longer one that begins with it.
func TestSameLength(t *testing.T) {
	for n := range 5 {
		x := ordinary()
		x.Ports = x.Ports[:n]
		wantSame(t, "fewer devices", x, ordinary(), false)
	}
	for n := range 3 {
		x := ordinary()
		x.Links = x.Links[:n]
		wantSame(t, "fewer links", x, ordinary(), false)
	}
	x := ordinary()
	x.Ports = append(x.Ports, 0)
	wantSame(t, "a device of no ports", x, ordinary(), false)
	y := ordinary()
	y.Links = append(y.Links, api.Link{})
	wantSame(t, "an empty link", y, ordinary(), false)
}

// Rule 6: a list without elements may be nil or not.
func TestSameEmpty(t *testing.T) {
	noPorts, noLinks := []int{}, []api.Link{}
	wantSame(t, "nothing", api.Topology{}, api.Topology{Ports: noPorts, Links: noLinks}, true)
	wantSame(t, "nothing, half of it nil", api.Topology{Links: noLinks}, api.Topology{Ports: noPorts}, true)
	wantSame(t, "no links", of(nil, 1, 2), of(noLinks, 1, 2), true)
	wantSame(t, "no ports", of([]api.Link{ln(0, 0, 1, 0)}), of([]api.Link{ln(0, 0, 1, 0)}, noPorts...), true)
	wantSame(t, "no links, other ports", of(nil, 1, 2), of(noLinks, 1, 3), false)
	wantSame(t, "nothing and something", api.Topology{}, of(nil, 1), false)
}
