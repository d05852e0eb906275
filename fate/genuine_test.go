package fate

import (
	"math"
	"slices"
	"testing"

	"waystone/api"
)

// wantGenuine asks Genuine of a trace.
func wantGenuine(t *testing.T, what string, n api.Network, a uint32, x api.Trace, want bool) {
	t.Helper()
	if Genuine(n, a, x) != want {
		t.Errorf("%s: %v: %d: %v: genuine is not %v", what, n, a, x, want)
	}
}

// change is a way in which a trace is made another one.
type change struct {
	what string
	do   func(x *api.Trace)
}

// otherDevices are changes of a trace's devices.
func otherDevices(many int) []change {
	l := []change{
		{"a device less", func(x *api.Trace) { x.Devices = x.Devices[:many-1] }},
		{"the first one less", func(x *api.Trace) { x.Devices = x.Devices[1:] }},
		{"none", func(x *api.Trace) { x.Devices = nil }},
		{"none, not nil", func(x *api.Trace) { x.Devices = x.Devices[:0] }},
		{"the last one once more", func(x *api.Trace) { x.Devices = append(x.Devices, x.Devices[many-1]) }},
		{"the first one once more", func(x *api.Trace) { x.Devices = append(x.Devices, x.Devices[0]) }},
		{"the first one twice ahead", func(x *api.Trace) { x.Devices = slices.Insert(x.Devices, 0, x.Devices[0]) }},
		{"many more", func(x *api.Trace) { x.Devices = append(x.Devices, slices.Repeat(x.Devices, 100)...) }},
	}
	for _, d := range append(far(), 0, 1, 7) {
		l = append(l, change{"one more", func(x *api.Trace) { x.Devices = append(x.Devices, d) }})
		for i := range many {
			l = append(l, change{"another one", func(x *api.Trace) { x.Devices[i] = d }})
		}
	}
	return l
}

// otherEnds are changes of a trace's fate, and of the port by which it leaves.
func otherEnds() []change {
	var l []change
	for _, f := range []api.Fate{math.MinInt, -1, api.Lost, api.Dropped, api.Denied, api.Delivered, api.Looped, 5, math.MaxInt} {
		l = append(l, change{"another fate", func(x *api.Trace) { x.Fate = f }})
	}
	for _, by := range []int{math.MinInt, -2, -1, 1, 2, 3, 1 << 32} {
		l = append(l, change{"another device's port", func(x *api.Trace) { x.Out.Device += by }}, change{"another port", func(x *api.Trace) { x.Out.Port += by }})
	}
	return append(l, change{"no port", func(x *api.Trace) { x.Out = api.Port{} }}, change{"a port of none", func(x *api.Trace) { x.Out = pt(-1, -1) }})
}

// P9.1, Y1: the trace itself is genuine, and no other one is, in whichever way it is another one.
func TestGenuine(t *testing.T) {
	n := ordinary()
	for d := range n.T.Ports {
		for a := uint32(95); a < 235; a++ {
			own := follow(n, nil, d, a)
			wantGenuine(t, "the trace itself", n, a, own, true)
			for _, c := range append(otherDevices(len(own.Devices)), otherEnds()...) {
				x := api.Trace{Devices: slices.Clone(own.Devices), Fate: own.Fate, Out: own.Out}
				c.do(&x)
				// What is changed may be another packet's trace: then its first device tells which.
				want := len(x.Devices) > 0 && x.Devices[0] >= 0 && x.Devices[0] < 5 && alike(x, follow(n, nil, x.Devices[0], a))
				wantGenuine(t, c.what, n, a, x, want)
			}
		}
	}
}

// P9.1, Y1: what is genuine is that of the address, of the first device, and of the network.
func TestGenuineOfAnother(t *testing.T) {
	n := ordinary()
	wantGenuine(t, "the address", n, 155, leaves(1, 0, 1, 2), true)
	wantGenuine(t, "another address that fares so", n, 150, leaves(1, 0, 1, 2), true)
	wantGenuine(t, "another address", n, 160, leaves(1, 0, 1, 2), false)
	wantGenuine(t, "the rest of it", n, 155, leaves(1, 1, 2), true)
	wantGenuine(t, "its beginning", n, 155, tr(api.Lost, 0, 1), false)
	wantGenuine(t, "its beginning, as if by a port", n, 155, leaves(1, 0), false)
	wantGenuine(t, "the rest of a looped one", n, 165, tr(api.Looped, 2, 1), false)
	wantGenuine(t, "a looped one, once more round", n, 165, tr(api.Looped, 0, 1, 2, 1, 2), false)
	wantGenuine(t, "a looped one, not back yet", n, 165, tr(api.Looped, 0, 1, 2), false)
	n.Rules[5].Port = 0
	wantGenuine(t, "a network as it is now", n, 100, leaves(3, 0, 1), false)
	wantGenuine(t, "a network as it is now", n, 100, tr(api.Looped, 0, 1, 0), true)
}

// P9.1, Y1: a trace without devices is no packet's.
func TestGenuineWithoutDevices(t *testing.T) {
	for _, n := range rights() {
		for _, f := range []api.Fate{api.Lost, api.Dropped, api.Denied, api.Delivered, api.Looped} {
			for _, a := range addresses() {
				wantGenuine(t, "no devices", n, a, api.Trace{Fate: f}, false)
				wantGenuine(t, "no devices, not nil", n, a, api.Trace{Devices: []int{}, Fate: f}, false)
			}
		}
	}
}

// P9.1, Y1: a trace with a device that there is not is no packet's, wherever that stands.
func TestGenuineNoDevice(t *testing.T) {
	for _, n := range []api.Network{ordinary(), line(1), line(8), net(top(nil, 1))} {
		for _, d := range append(far(), len(n.T.Ports)) {
			for f := api.Lost; f <= api.Looped; f++ {
				wantGenuine(t, "it alone", n, 0, tr(f, d), false)
				wantGenuine(t, "it first", n, 0, tr(f, d, 0), false)
				wantGenuine(t, "it last", n, 0, tr(f, 0, d), false)
				wantGenuine(t, "it twice", n, 0, tr(f, d, d), false)
			}
		}
	}
}

// P9.1, Y1: over drawn networks, the traces that are genuine are those that packets have.
func TestGenuineDrawn(t *testing.T) {
	for _, n := range drawn(60) {
		for _, a := range addresses() {
			for d := range n.T.Ports {
				own := follow(n, nil, d, a)
				wantGenuine(t, "a packet's own", n, a, own, true)
				for f := api.Lost; f <= api.Looped; f++ {
					wantGenuine(t, "of a fate", n, a, api.Trace{Devices: own.Devices, Fate: f, Out: own.Out}, f == own.Fate)
				}
				for e := range n.T.Ports {
					x := api.Trace{Devices: slices.Clone(own.Devices), Fate: own.Fate, Out: own.Out}
					x.Devices[len(x.Devices)-1] = e
					want := alike(x, follow(n, nil, x.Devices[0], a))
					wantGenuine(t, "of another last device", n, a, x, want)
				}
			}
		}
	}
}
