package query

import (
	"math"
	"slices"
	"testing"

	"waystone/api"
)

// five has five devices, of two ports each, and no rules: Breaks asks the traces that it is handed alone.
func five() api.Network { return net(top(nil, 2, 2, 2, 2, 2)) }

// wantBreaks asks Breaks of traces, some of which break a query, and some do not; whatever else is told.
func wantBreaks(t *testing.T, q api.Query, do, not []api.Trace) {
	t.Helper()
	for i, x := range append(slices.Clone(do), not...) {
		for _, other := range []api.Network{{}, five(), ordinary(), most()} {
			for _, u := range []api.Trace{{}, x, tr(api.Looped, 2, 3, 2), out(0, 1), tr(api.Lost, 4), outOf(api.Port{Device: 9, Port: -1}, -1)} {
				if Breaks(five(), other, q, x, u) != (i < len(do)) {
					t.Fatalf("%+v: Breaks by %v, %v: %v", q, x, u, i >= len(do))
				}
			}
		}
	}
}

// everyFate are traces that go by devices, of all fates; delivered by both ports of the last one.
func everyFate(devices ...int) []api.Trace {
	return []api.Trace{tr(api.Lost, devices...), tr(api.Dropped, devices...), tr(api.Denied, devices...), out(0, devices...), out(1, devices...), tr(api.Looped, append(slices.Clone(devices), devices[0])...)}
}

// Q1, P12.1: of Reach: from A, and not delivered by a port of B, at the first device or at later ones.
func TestBreaksReach(t *testing.T) {
	lost := func(devices ...int) []api.Trace { return slices.Delete(everyFate(devices...), 3, 5) }
	not := []api.Trace{out(0, 1, 3), out(1, 1, 3), out(0, 1, 2, 3), out(1, 1, 0, 4, 2, 3)}
	do := slices.Concat(lost(1), lost(1, 3), lost(1, 2, 3), lost(1, 3, 2), []api.Trace{out(0, 1), out(1, 1), out(0, 1, 2), out(1, 1, 2), out(0, 1, 3, 2), tr(api.Looped, 1, 2, 3, 2)})
	wantBreaks(t, reach(1, 3, all()), do, slices.Concat(not, everyFate(0), everyFate(0, 1), everyFate(3), everyFate(3, 1), everyFate(2, 1, 3), everyFate(4)))
	// Where A is B.
	wantBreaks(t, reach(2, 2, rg(7, 7)), slices.Concat(lost(2), lost(2, 1), []api.Trace{out(0, 2, 1), out(1, 2, 3, 4)}), slices.Concat([]api.Trace{out(0, 2), out(1, 2)}, everyFate(1), everyFate(1, 2)))
	// The first device, and the last one.
	wantBreaks(t, reach(0, 4, rg(0, 0)), slices.Concat(lost(0), lost(0, 4), []api.Trace{out(0, 0)}), slices.Concat([]api.Trace{out(0, 0, 4), out(1, 0, 1, 2, 3, 4)}, everyFate(4), everyFate(4, 0)))
	wantBreaks(t, reach(4, 0, rg(last, last)), slices.Concat(lost(4), lost(4, 0), []api.Trace{out(0, 4)}), slices.Concat([]api.Trace{out(0, 4, 0), out(1, 4, 1, 2, 3, 0)}, everyFate(0), everyFate(0, 4)))
	// Who is not delivered leaves by no port, whatever is told.
	odd := []api.Trace{{Devices: []int{1, 3}, Fate: api.Lost, Out: api.Port{Device: 3}}, {Devices: []int{1, 3}, Fate: api.Looped, Out: api.Port{Device: 3, Port: 1}}}
	wantBreaks(t, reach(1, 3, all()), odd, nil)
}

// Q1, P12.1: of NoLoop: looped, from any device, at the first one or at later ones.
func TestBreaksNoLoop(t *testing.T) {
	for first := range 5 {
		second := (first + 2) % 5
		do := []api.Trace{tr(api.Looped, first, first), tr(api.Looped, first, second, first), tr(api.Looped, first, second, second)}
		var not []api.Trace
		for _, x := range slices.Concat(everyFate(first), everyFate(first, second)) {
			if x.Fate != api.Looped {
				not = append(not, x)
			}
		}
		wantBreaks(t, noLoop(all()), do, not)
	}
}

// Q1, P12.1: of NoHole: lost, from any device, at the first one or at later ones.
func TestBreaksNoHole(t *testing.T) {
	for first := range 5 {
		second := (first + 3) % 5
		do := []api.Trace{tr(api.Lost, first), tr(api.Lost, first, second), tr(api.Lost, first, second, (second+3)%5)}
		not := slices.Concat(everyFate(first)[1:], everyFate(first, second)[1:])
		wantBreaks(t, noHole(all()), do, not)
	}
}

// Q1, P12.1: of Isolated: from A, and comes to B at the first, a middle or the last step, whatever becomes of it.
func TestBreaksIsolated(t *testing.T) {
	never := slices.Concat(everyFate(1), everyFate(1, 2), everyFate(1, 0, 4), everyFate(0), everyFate(3), everyFate(0, 3), everyFate(3, 1), everyFate(0, 1, 3))
	do := slices.Concat(everyFate(1, 3), everyFate(1, 3, 2), everyFate(1, 2, 3), everyFate(1, 2, 3, 4), []api.Trace{tr(api.Looped, 1, 2, 3, 2), tr(api.Looped, 1, 3, 3)})
	wantBreaks(t, isolated(1, 3, all()), do, never)
	// Where A is B, all from A come to it.
	wantBreaks(t, isolated(3, 3, all()), slices.Concat(everyFate(3), everyFate(3, 1)), slices.Concat(everyFate(1), everyFate(1, 3)))
	wantBreaks(t, isolated(0, 0, all()), slices.Concat(everyFate(0), everyFate(0, 1)), slices.Concat(everyFate(1), everyFate(1, 0)))
	wantBreaks(t, isolated(4, 0, all()), everyFate(4, 0), slices.Concat(everyFate(4), everyFate(0)))
	wantBreaks(t, isolated(0, 4, all()), everyFate(0, 4), slices.Concat(everyFate(0), everyFate(4)))
	// To leave by a port of B is not to come to it, whatever is told.
	wantBreaks(t, isolated(1, 3, all()), nil, []api.Trace{outOf(api.Port{Device: 3}, 1, 2)})
}

// Q1, P12.1: of Waypoint: from A, delivered by a port of B, and does not come to W at the first, a middle or the last step.
func TestBreaksWaypoint(t *testing.T) {
	through := []api.Trace{out(0, 1, 2, 3), out(1, 1, 2, 3), out(0, 1, 2, 4, 3), out(0, 1, 4, 2, 3), out(0, 1, 0, 2, 4, 3)}
	past := []api.Trace{out(0, 1, 3), out(1, 1, 3), out(0, 1, 4, 3), out(1, 1, 0, 4, 3)}
	elsewhere := []api.Trace{out(0, 1), out(1, 1, 0), out(0, 1, 3, 4), out(0, 1, 2), out(0, 0, 3), out(0, 3), out(0, 2, 3), out(0, 0, 1, 3)}
	wantBreaks(t, waypoint(1, 3, 2, all()), past, slices.Concat(through, elsewhere))
	for _, x := range slices.Concat(everyFate(1), everyFate(1, 3), everyFate(1, 4), everyFate(1, 2, 3), everyFate(1, 3, 2)) {
		if x.Fate != api.Delivered {
			wantBreaks(t, waypoint(1, 3, 2, all()), nil, []api.Trace{x})
		}
	}
	// All that begin at A come to it, and all that are delivered by a port of B come to that.
	wantBreaks(t, waypoint(1, 3, 1, all()), nil, slices.Concat(through, past, elsewhere))
	wantBreaks(t, waypoint(1, 3, 3, all()), nil, slices.Concat(through, past, elsewhere))
	// Where A is B.
	wantBreaks(t, waypoint(3, 3, 2, all()), []api.Trace{out(0, 3), out(1, 3)}, []api.Trace{tr(api.Lost, 3), out(0, 3, 2), out(0, 1, 3)})
	wantBreaks(t, waypoint(3, 3, 3, all()), nil, slices.Concat(everyFate(3), everyFate(3, 1)))
	wantBreaks(t, waypoint(0, 4, 1, all()), []api.Trace{out(0, 0, 4), out(0, 0, 2, 3, 4)}, []api.Trace{out(0, 0, 1, 4), out(0, 0), out(0, 4)})
	wantBreaks(t, waypoint(4, 0, 1, all()), []api.Trace{out(0, 4, 0), out(0, 4, 2, 3, 0)}, []api.Trace{out(0, 4, 1, 0), out(0, 4), out(0, 0)})
}

// Q1, P12.1: of Same: two traces that are not alike, in one field each, from any device.
func TestBreaksSame(t *testing.T) {
	n := five()
	for first := range 5 {
		x := outOf(api.Port{Device: 2, Port: 1}, first, 4, 2)
		for i, u := range []api.Trace{
			x,
			outOf(api.Port{Device: 2, Port: 1}, first, 4, 2),
			outOf(api.Port{Device: 2}, first, 4, 2),
			outOf(api.Port{Device: 1, Port: 1}, first, 4, 2),
			outOf(api.Port{Device: 2, Port: 1}, first, 3, 2),
			outOf(api.Port{Device: 2, Port: 1}, (first+1)%5, 4, 2),
			outOf(api.Port{Device: 2, Port: 1}, first, 4),
			outOf(api.Port{Device: 2, Port: 1}, first, 4, 2, 2),
			outOf(api.Port{Device: 2, Port: 1}),
			{Devices: []int{first, 4, 2}, Fate: api.Looped, Out: api.Port{Device: 2, Port: 1}},
			tr(api.Lost, first, 4, 2),
			{},
		} {
			for _, other := range []api.Network{n, ordinary(), {}} {
				if Breaks(n, other, same(all()), x, u) != (i > 1) {
					t.Errorf("Same: %v, %v: %v", x, u, i <= 1)
				}
			}
		}
		for _, f := range everyFate(first) {
			for k, u := range everyFate(first) {
				alike := f.Fate == u.Fate && f.Out == u.Out
				if Breaks(n, n, same(rg(9, 9)), f, u) == alike {
					t.Errorf("Same: %v, %d %v: %v", f, k, u, alike)
				}
			}
		}
	}
}

// Q1, P12.1: a trace that begins at no source breaks nothing: none of a device that there is not, and none without devices.
func TestBreaksFromElsewhere(t *testing.T) {
	n := five()
	for _, k := range kinds() {
		q := api.Query{Kind: k, R: all()}
		for _, f := range []api.Fate{api.Lost, api.Dropped, api.Denied, api.Delivered, api.Looped} {
			for _, u := range []api.Trace{{}, tr(api.Denied, 0), out(0, 1)} {
				for _, first := range beyond(n) {
					if Breaks(n, n, q, tr(f, first), u) || Breaks(n, n, q, tr(f, first, 0, 1, 0), u) {
						t.Errorf("%+v: broken from %d", q, first)
					}
				}
				if Breaks(n, n, q, tr(f), u) || Breaks(n, n, q, api.Trace{Fate: f, Out: api.Port{Device: 0}}, u) {
					t.Errorf("%+v: broken by a trace without devices", q)
				}
			}
		}
	}
	// The first device that there is not is the last one of another network.
	if Breaks(line(4), five(), noHole(all()), tr(api.Lost, 4), tr(api.Lost, 4)) || !Breaks(five(), line(4), noHole(all()), tr(api.Lost, 4), api.Trace{}) {
		t.Error("the wrong network is asked")
	}
}

// Q1: traces with any numbers, of no packet at all.
func TestBreaksOdd(t *testing.T) {
	q := waypoint(1, 3, 2, all())
	for _, x := range []api.Trace{{Devices: []int{1, math.MinInt, math.MaxInt}, Fate: 99}, {Devices: []int{1}, Fate: -1, Out: api.Port{Device: 3}}, outOf(api.Port{Device: math.MaxInt}, 1)} {
		if Breaks(five(), five(), q, x, x) {
			t.Errorf("broken by %v", x)
		}
	}
	if !Breaks(five(), five(), q, outOf(api.Port{Device: 3, Port: math.MinInt}, 1, -2, 100), api.Trace{}) {
		t.Error("not broken by a trace past W")
	}
	if !Breaks(five(), five(), reach(1, 3, all()), api.Trace{Devices: []int{1, 3}, Fate: 99, Out: api.Port{Device: 3}}, api.Trace{}) {
		t.Error("not broken by a trace of no fate")
	}
}
