package fate

import (
	"slices"
	"testing"

	"waystone/api"
)

// wantTrace asks for a packet's trace.
func wantTrace(t *testing.T, n api.Network, device int, a uint32, want api.Trace) {
	t.Helper()
	if x, e := Trace(n, device, a); e != api.OK || !alike(x, want) {
		t.Errorf("%v: Trace(%d, %d): %v, %v; want %v", n, device, a, x, e, want)
	}
}

// P9.1, Y1: from the first device: of every fate, there and behind others; looped back to the first, to one in the midst, to the last itself.
func TestTraceFirst(t *testing.T) {
	for a, want := range map[uint32]api.Trace{
		0: tr(api.Lost, 0), 99: tr(api.Lost, 0), 230: tr(api.Lost, 0), last: tr(api.Lost, 0),
		200: leaves(0, 0), 209: leaves(0, 0),
		210: tr(api.Dropped, 0), 219: tr(api.Dropped, 0),
		220: tr(api.Denied, 0), 229: tr(api.Denied, 0),
		100: leaves(3, 0, 1), 109: leaves(3, 0, 1),
		110: tr(api.Dropped, 0, 1), 119: tr(api.Dropped, 0, 1),
		120: tr(api.Denied, 0, 1), 129: tr(api.Denied, 0, 1),
		130: tr(api.Lost, 0, 1), 139: tr(api.Lost, 0, 1),
		140: tr(api.Looped, 0, 1, 0), 149: tr(api.Looped, 0, 1, 0),
		150: leaves(1, 0, 1, 2), 159: leaves(1, 0, 1, 2),
		160: tr(api.Looped, 0, 1, 2, 1), 169: tr(api.Looped, 0, 1, 2, 1),
		170: tr(api.Dropped, 0, 1, 2), 173: tr(api.Dropped, 0, 1, 2),
		174: tr(api.Denied, 0, 1, 2), 176: tr(api.Denied, 0, 1, 2),
		177: tr(api.Lost, 0, 1, 2), 179: tr(api.Lost, 0, 1, 2),
		180: tr(api.Looped, 0, 1, 3, 3), 184: tr(api.Looped, 0, 1, 3, 3),
		185: tr(api.Looped, 0, 1, 3, 1), 189: tr(api.Looped, 0, 1, 3, 1),
		190: tr(api.Dropped, 0, 1, 3), 193: tr(api.Dropped, 0, 1, 3),
		194: tr(api.Denied, 0, 1, 3), 196: tr(api.Denied, 0, 1, 3),
		197: tr(api.Lost, 0, 1, 3), 199: tr(api.Lost, 0, 1, 3),
	} {
		wantTrace(t, ordinary(), 0, a, want)
	}
}

// P9.1, Y1: from each other device.
func TestTraceOthers(t *testing.T) {
	for _, c := range []struct {
		device int
		a      uint32
		want   api.Trace
	}{
		{1, 99, tr(api.Lost, 1)}, {1, 100, leaves(3, 1)}, {1, 110, tr(api.Dropped, 1)}, {1, 120, tr(api.Denied, 1)}, {1, 140, tr(api.Looped, 1, 0, 1)},
		{1, 155, leaves(1, 1, 2)}, {1, 165, tr(api.Looped, 1, 2, 1)}, {1, 172, tr(api.Dropped, 1, 2)}, {1, 175, tr(api.Denied, 1, 2)}, {1, 178, tr(api.Lost, 1, 2)},
		{1, 182, tr(api.Looped, 1, 3, 3)}, {1, 187, tr(api.Looped, 1, 3, 1)}, {1, 200, tr(api.Lost, 1)},
		{2, 149, tr(api.Lost, 2)}, {2, 150, leaves(1, 2)}, {2, 160, tr(api.Looped, 2, 1, 2)}, {2, 170, tr(api.Dropped, 2)}, {2, 174, tr(api.Denied, 2)}, {2, 180, tr(api.Lost, 2)},
		{3, 179, tr(api.Lost, 3)}, {3, 180, tr(api.Looped, 3, 3)}, {3, 185, tr(api.Looped, 3, 1, 3)}, {3, 190, tr(api.Dropped, 3)}, {3, 194, tr(api.Denied, 3)}, {3, 200, tr(api.Lost, 3)},
		{4, 0, leaves(0, 4)}, {4, 150, leaves(0, 4)}, {4, last, leaves(0, 4)},
	} {
		wantTrace(t, ordinary(), c.device, c.a, c.want)
	}
}

// P9.1, Y1: through all devices, from each one, up to a last one that delivers, drops, denies or loses it, or back to the first.
func TestTraceThroughAll(t *testing.T) {
	for many := 1; many <= api.MaxDevices; many++ {
		end := many - 1
		for d := range many {
			for _, a := range []uint32{0, 77, last} {
				wantTrace(t, line(many), d, a, leaves(1, upTo(d, end)...))
				lost, dropped, denied := line(many), line(many), line(many)
				lost.Rules = lost.Rules[:end]
				dropped.Rules[end] = api.Rule{ID: 100, Device: end, Kind: api.Drop, R: all()}
				denied.Rules = append(denied.Rules, api.Rule{ID: 100, Device: end, Kind: api.Deny, R: all()})
				wantTrace(t, lost, d, a, tr(api.Lost, upTo(d, end)...))
				wantTrace(t, dropped, d, a, tr(api.Dropped, upTo(d, end)...))
				wantTrace(t, denied, d, a, tr(api.Denied, upTo(d, end)...))
				wantTrace(t, ring(many), d, a, tr(api.Looped, append(upTo(d, end), upTo(0, d)...)...))
			}
		}
	}
}

// P9.1, Y1: from the last of all devices to the first, by links of which the ends are turned round.
func TestTraceBack(t *testing.T) {
	n := line(8)
	for d := range 8 {
		n.Rules[d].Port = 0
	}
	for i, l := range n.T.Links {
		if i%2 == 0 {
			n.T.Links[i] = api.Link{A: l.B, B: l.A}
		}
	}
	wantTrace(t, n, 7, 3, leaves(0, 7, 6, 5, 4, 3, 2, 1, 0))
	wantTrace(t, n, 0, 3, leaves(0, 0))
	n.Rules[0].Port = 1
	wantTrace(t, n, 7, 3, tr(api.Looped, 7, 6, 5, 4, 3, 2, 1, 0, 1))
}

// P9.1, Y1: a device is not come to by a port of its own that none goes by; what comes in by a port that it would leave by goes back.
func TestTraceBackAgain(t *testing.T) {
	n := net(top([]api.Link{ln(0, 0, 1, 0)}, 1, 1), by(0, 0, all(), 0), by(1, 0, all(), 0))
	wantTrace(t, n, 0, 5, tr(api.Looped, 0, 1, 0))
	wantTrace(t, n, 1, 5, tr(api.Looped, 1, 0, 1))
	own := net(top([]api.Link{ln(0, 1, 0, 0)}, 2), by(0, 0, rg(0, 9), 0), by(0, 1, rg(10, last), 0))
	wantTrace(t, own, 0, 9, tr(api.Looped, 0, 0))
	wantTrace(t, own, 0, 10, tr(api.Looped, 0, 0))
}

// P9.1, Y1: ErrDevice, and no trace beside it, of a device below 0, of the first number above the last one, and of far ones.
func TestTraceNoDevice(t *testing.T) {
	for _, n := range rights() {
		for _, device := range append(far(), len(n.T.Ports), len(n.T.Ports)+1) {
			for _, a := range []uint32{0, 150, last} {
				x, e := Trace(n, device, a)
				if e != api.ErrDevice || len(x.Devices) != 0 || x.Fate != 0 || x.Out != (api.Port{}) {
					t.Errorf("%v: Trace(%d, %d): %v, %v", n, device, a, x, e)
				}
			}
		}
		for device := range n.T.Ports {
			if _, e := Trace(n, device, 0); e != api.OK {
				t.Errorf("%v: Trace(%d): %v", n, device, e)
			}
		}
	}
}

// P9.1, Y1: over drawn networks, a packet that is followed device by device has just this trace.
func TestTraceDrawn(t *testing.T) {
	for _, n := range append(rights(), drawn(400)...) {
		for d := range n.T.Ports {
			for _, a := range addresses() {
				wantTrace(t, n, d, a, follow(n, nil, d, a))
			}
		}
	}
}

// eachTrace goes through the traces of all packets of drawn networks.
func eachTrace(t *testing.T, do func(n api.Network, a uint32, x api.Trace)) {
	t.Helper()
	for _, n := range append(rights(), drawn(400)...) {
		for d := range n.T.Ports {
			for _, a := range addresses() {
				x, e := Trace(n, d, a)
				if e != api.OK || len(x.Devices) == 0 || x.Devices[0] != d {
					t.Fatalf("%v: Trace(%d, %d): %v, %v", n, d, a, x, e)
				}
				do(n, a, x)
			}
		}
	}
}

// P9.2 (it ends): each device once, but for the last one of a packet that is looped, that is there twice.
func TestEachOnce(t *testing.T) {
	eachTrace(t, func(n api.Network, a uint32, x api.Trace) {
		came := map[int]int{}
		for _, d := range x.Devices {
			if d < 0 || d >= len(n.T.Ports) {
				t.Fatalf("%v, %d: no such device: %v", n, a, x)
			}
			came[d]++
		}
		end := x.Devices[len(x.Devices)-1]
		for d, times := range came {
			want := 1
			if d == end && x.Fate == api.Looped {
				want = 2
			}
			if times != want {
				t.Fatalf("%v, %d: %d comes %d times: %v", n, a, d, times, x)
			}
		}
	})
}

// P9.2, P9.1: each device is joined to the next one by the port that Step tells; the last one's step is the fate, and the port by which it leaves is joined to none.
func TestJoined(t *testing.T) {
	eachTrace(t, func(n api.Network, a uint32, x api.Trace) {
		for i, d := range x.Devices[1:] {
			f, p := Step(n, x.Devices[i], a)
			to := joinedTo(n.T, p)
			if f != api.Looped || p.Device != x.Devices[i] || len(to) != 1 || to[0].Device != d {
				t.Fatalf("%v, %d: from %d to %d by %v, %v: %v", n, a, x.Devices[i], d, f, p, x)
			}
		}
		end := x.Devices[len(x.Devices)-1]
		f, p := Step(n, end, a)
		switch x.Fate {
		case api.Delivered:
			if p != x.Out || x.Out.Device != end || x.Out.Port < 0 || x.Out.Port >= n.T.Ports[end] || len(joinedTo(n.T, x.Out)) != 0 {
				t.Fatalf("%v, %d: leaves by %v: %v", n, a, p, x)
			}
		default:
			if x.Out != (api.Port{}) {
				t.Fatalf("%v, %d: does not leave: %v", n, a, x)
			}
		}
		if f != x.Fate {
			t.Fatalf("%v, %d: at the last device %v: %v", n, a, f, x)
		}
	})
}

// P9.3 (step by step): the trace from a device to which a packet comes is the rest of its trace; from one to which a looped packet comes it is looped too.
func TestRest(t *testing.T) {
	rests := 0
	eachTrace(t, func(n api.Network, a uint32, x api.Trace) {
		for i, d := range x.Devices {
			y, e := Trace(n, d, a)
			if e != api.OK || y.Fate != x.Fate {
				t.Fatalf("%v, %d: %v; from %d: %v, %v", n, a, x, d, y, e)
			}
			if x.Fate == api.Looped {
				continue
			}
			if !alike(y, api.Trace{Devices: x.Devices[i:], Fate: x.Fate, Out: x.Out}) || !Genuine(n, a, api.Trace{Devices: x.Devices[i:], Fate: x.Fate, Out: x.Out}) {
				t.Fatalf("%v, %d: %v; from %d: %v", n, a, x, d, y)
			}
			if i > 0 {
				rests++
			}
		}
	})
	if rests < 1000 {
		t.Errorf("but %d rests", rests)
	}
}

// P9.1 to P9.3: any network at all, made of bytes.
func FuzzTrace(f *testing.F) {
	f.Add([]byte{2, 2, 1}, []byte{0, 1, 1, 0}, []byte{0, 1, 0, 0, 9, 1, 1, 1, 0, 0, 9, 0}, 0, uint32(3))
	f.Add([]byte{2, 2}, []byte{0, 0, 1, 0, 1, 1, 0, 1}, []byte{0, 1, 0, 0, 9, 1, 1, 1, 0, 0, 9, 0, 1, 2, 3, 0, 9, 0}, 1, uint32(5))
	f.Add([]byte{1, 0, 5}, []byte{0, 0, 9, 0, 9, 1, 200, 3}, []byte{0, 1, 0, 0, 9, 0, 9, 1, 0, 0, 9, 1, 200, 1, 0, 0, 9, 3}, 0, uint32(5))
	f.Fuzz(func(t *testing.T, ports, links, rules []byte, device int, a uint32) {
		n := api.Network{}
		for _, p := range ports {
			n.T.Ports = append(n.T.Ports, int(int8(p)))
		}
		for ; len(links) >= 4; links = links[4:] {
			n.T.Links = append(n.T.Links, ln(int(int8(links[0])), int(int8(links[1])), int(int8(links[2])), int(int8(links[3]))))
		}
		for i := 1; len(rules) >= 6; i++ {
			r := api.Rule{ID: i, Device: int(int8(rules[0])), Prio: int(int8(rules[1])), Kind: api.RuleKind(int8(rules[2])), R: rg(uint32(rules[3]), uint32(rules[4])), Port: int(int8(rules[5]))}
			n.Rules, rules = append(n.Rules, r), rules[6:]
		}
		x, e := Trace(n, device, a)
		if !Right(n) {
			return
		}
		if device < 0 || device >= len(n.T.Ports) {
			if e != api.ErrDevice {
				t.Fatalf("%v: Trace(%d, %d): %v, %v", n, device, a, x, e)
			}
			return
		}
		if want := follow(n, nil, device, a); e != api.OK || !alike(x, want) || !Genuine(n, a, x) || slices.Max(x.Devices) >= len(n.T.Ports) {
			t.Fatalf("%v: Trace(%d, %d): %v, %v; want %v", n, device, a, x, e, want)
		}
	})
}
