package fate

import (
	"math"
	"slices"
	"testing"

	"waystone/api"
)

// wantSame asks Same of two traces, both ways round.
func wantSame(t *testing.T, what string, x, y api.Trace, want bool) {
	t.Helper()
	if Same(x, y) != want || Same(y, x) != want {
		t.Errorf("%s: %v, %v: same is not %v", what, x, y, want)
	}
}

// traces are such as packets have, and such as none has.
func traces() []api.Trace {
	l := []api.Trace{{}, {Devices: []int{}}, {Fate: api.Looped}, {Out: pt(0, 1)}, {Out: pt(1, 0)}, tr(-1, -1), tr(9, math.MaxInt, math.MinInt), tr(api.Lost, slices.Repeat([]int{3}, 1000)...)}
	for f := api.Lost; f <= api.Looped; f++ {
		l = append(l, tr(f, 0), tr(f, 1), tr(f, 0, 1), tr(f, 1, 0), tr(f, 0, 1, 2), tr(f, 0, 1, 1), tr(f, upTo(0, 7)...))
		l = append(l, api.Trace{Devices: []int{0, 1, 2}, Fate: f, Out: pt(2, 1)}, api.Trace{Devices: []int{0, 1, 2}, Fate: f, Out: pt(1, 2)})
	}
	return l
}

// P9.1, Y1: a trace is like itself and its copy, and like no other one.
func TestSame(t *testing.T) {
	l := traces()
	for i, x := range l {
		wantSame(t, "itself", x, x, true)
		wantSame(t, "its copy", x, api.Trace{Devices: slices.Clone(x.Devices), Fate: x.Fate, Out: x.Out}, true)
		for _, y := range l[:i] {
			wantSame(t, "two", x, y, alike(x, y))
		}
	}
}

// P9.1, Y1: one device, the fate, or one field of the port tells two apart.
func TestSameFields(t *testing.T) {
	for _, by := range []int{math.MinInt, -1, 1, 2, 1 << 32} {
		for many := 1; many <= 9; many++ {
			was := leaves(2, upTo(10, 9+many)...)
			for i := range many {
				x := leaves(2, upTo(10, 9+many)...)
				x.Devices[i] += by
				wantSame(t, "a device", x, was, false)
			}
			x, y, z := was, was, was
			x.Fate += api.Fate(by)
			y.Out.Device += by
			z.Out.Port += by
			wantSame(t, "the fate", x, was, false)
			wantSame(t, "the port's device", y, was, false)
			wantSame(t, "the port's number", z, was, false)
		}
	}
}

// P9.1, Y1: a shorter one is not like a longer one that begins, or ends, with it; the order tells two apart.
func TestSameLength(t *testing.T) {
	for many := 1; many <= 9; many++ {
		was := tr(api.Looped, upTo(0, many-1)...)
		for k := range many {
			wantSame(t, "a beginning", tr(api.Looped, upTo(0, k-1)...), was, false)
			wantSame(t, "an end", tr(api.Looped, upTo(many-k, many-1)...), was, false)
		}
		wantSame(t, "a device 0 more", tr(api.Looped, append(upTo(0, many-1), 0)...), was, false)
		turned := upTo(0, many-1)
		slices.Reverse(turned)
		wantSame(t, "turned round", tr(api.Looped, turned...), was, many == 1)
	}
}

// Rule 6: devices without elements may be nil or not.
func TestSameEmpty(t *testing.T) {
	for f := api.Lost; f <= api.Looped; f++ {
		x, y := api.Trace{Fate: f, Out: pt(1, 2)}, api.Trace{Devices: []int{}, Fate: f, Out: pt(1, 2)}
		wantSame(t, "nil, and without elements", x, y, true)
		y.Fate++
		wantSame(t, "of another fate", x, y, false)
		wantSame(t, "of no device, and of one", x, api.Trace{Devices: []int{0}, Fate: f, Out: pt(1, 2)}, false)
	}
}
