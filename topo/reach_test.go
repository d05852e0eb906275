package topo

import (
	"testing"

	"waystone/api"
)

// wantReaches asks Reaches of two devices, from the one to the other and back.
func wantReaches(t *testing.T, x api.Topology, a, b int, want bool) {
	t.Helper()
	if Reaches(x, a, b) != want || Reaches(x, b, a) != want {
		t.Errorf("%v: from %d to %d, or back: not %v", x, a, b, want)
	}
}

// P8.1, O1: a device is reached from itself, by no steps.
func TestReachesItself(t *testing.T) {
	for _, x := range rights() {
		for d := range x.Ports {
			wantReaches(t, x, d, d, true)
		}
	}
}

// P8.1, O1: over one link, over several, and not in a part that no link joins to the other one.
func TestReaches(t *testing.T) {
	x := ordinary()
	for a := range 5 {
		for b := range 5 {
			wantReaches(t, x, a, b, a == b || a < 3 && b < 3)
		}
	}
	for n := 2; n <= 8; n++ {
		for a := range n {
			for b := range n {
				wantReaches(t, line(n), a, b, true)
				wantReaches(t, ring(n), a, b, true)
				bare := line(n)
				bare.Links = nil
				wantReaches(t, bare, a, b, a == b)
			}
		}
	}
}

// P8.1, O1: a line that is cut has two parts; a ring that is cut once has one, one that is cut twice two.
func TestReachesCut(t *testing.T) {
	for cut := range 7 {
		x, y, z := line(8), ring(8), ring(8)
		x.Links = append(x.Links[:cut:cut], x.Links[cut+1:]...)
		y.Links = append(y.Links[:cut:cut], y.Links[cut+1:]...)
		z.Links = append(z.Links[:cut:cut], z.Links[cut+1:7]...)
		for a := range 8 {
			for b := range 8 {
				together := (a <= cut) == (b <= cut)
				wantReaches(t, x, a, b, together)
				wantReaches(t, y, a, b, true)
				wantReaches(t, z, a, b, together)
			}
		}
	}
}

// P8.1, O1: rings, and lines in any order of their devices and links, are gone through to their end.
func TestReachesTurned(t *testing.T) {
	star := of([]api.Link{ln(4, 0, 0, 0), ln(1, 0, 4, 1), ln(4, 2, 7, 0), ln(6, 0, 4, 3), ln(7, 1, 2, 0)}, 1, 1, 1, 1, 4, 1, 1, 2)
	for a := range 8 {
		for b := range 8 {
			wantReaches(t, star, a, b, a == b || a != 3 && b != 3 && a != 5 && b != 5)
		}
	}
	zigzag := of([]api.Link{ln(7, 0, 0, 1), ln(1, 0, 7, 1), ln(1, 1, 6, 0), ln(2, 0, 6, 1), ln(5, 1, 2, 1), ln(3, 0, 5, 0), ln(4, 1, 3, 1)}, 2, 2, 2, 2, 2, 2, 2, 2)
	rings := of([]api.Link{ln(0, 0, 2, 1), ln(2, 0, 4, 1), ln(4, 0, 0, 1), ln(1, 0, 3, 1), ln(3, 0, 5, 1), ln(5, 0, 1, 1), ln(6, 0, 7, 0), ln(7, 1, 6, 1)}, 2, 2, 2, 2, 2, 2, 2, 2)
	for a := range 8 {
		for b := range 8 {
			wantReaches(t, zigzag, a, b, true)
			wantReaches(t, rings, a, b, a < 6 && b < 6 && a%2 == b%2 || a >= 6 && b >= 6)
			wantReaches(t, full(), a, b, a == b || a+b == 7)
		}
	}
}

// P8.1, O1: a device that there is not is neither reached nor come from, not even from itself.
func TestReachesFar(t *testing.T) {
	for _, x := range rights() {
		for _, far := range append(ends(), len(x.Ports), len(x.Ports)+1, -2) {
			for d := range x.Ports {
				wantReaches(t, x, far, d, false)
			}
			wantReaches(t, x, far, far, false)
			wantReaches(t, x, far, -1, false)
			wantReaches(t, x, far, len(x.Ports), false)
		}
	}
}

// P8.1 and P8.3 (from one to another), over drawn topologies.
func TestGoesOn(t *testing.T) {
	for seed := range 400 {
		mix := mixer(seed)
		wantPaths(t, mix.topology())
	}
	for _, x := range rights() {
		wantPaths(t, x)
	}
}

// wantPaths asks of a right topology's devices whether each is reached from each, back, over any other one, and over each link.
func wantPaths(t *testing.T, x api.Topology) {
	t.Helper()
	m := paths(x)
	for a := range m {
		for b := range m {
			if Reaches(x, a, b) != m[a][b] {
				t.Fatalf("%v: from %d to %d: not %v", x, a, b, m[a][b])
			}
			if Reaches(x, b, a) != Reaches(x, a, b) {
				t.Fatalf("%v: from %d to %d, and not back", x, a, b)
			}
			for c := range m {
				if Reaches(x, a, b) && Reaches(x, b, c) && !Reaches(x, a, c) {
					t.Fatalf("%v: from %d to %d, and on to %d, but not from the first", x, a, b, c)
				}
			}
		}
	}
	for _, p := range allPorts(x) {
		if q, is := Next(x, p); is && !Reaches(x, p.Device, q.Device) {
			t.Fatalf("%v: not from %v to %v", x, p, q)
		}
	}
}
