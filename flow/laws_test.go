package flow

import (
	"slices"
	"testing"

	"waystone/api"
	"waystone/fate"
	"waystone/zone"
)

// wantEachOnce asks for five right zones that are all addresses, and have none in common.
func wantEachOnce(t *testing.T, n api.Network, device int) {
	t.Helper()
	fates, e := Fates(n, device)
	var both []api.Range
	many := uint64(0)
	for f, z := range fates {
		if e != api.OK || !zone.Right(z) {
			t.Fatalf("%v: Fates(%d): %v, %v", n, device, fates, e)
		}
		if common := zone.And(both, z); len(common) != 0 {
			t.Fatalf("%v: Fates(%d): %v has %v, that others have", n, device, f, common)
		}
		both = zone.Or(both, z)
		many += zone.Count(z)
	}
	if !slices.Equal(both, zone.All()) || many != last+1 {
		t.Fatalf("%v: Fates(%d): %v in all, %d", n, device, both, many)
	}
}

// P11.2 (each once): over drawn networks, from all their devices.
func TestEachOnce(t *testing.T) {
	for _, n := range append(rights(), drawn(200)...) {
		for device := range n.T.Ports {
			wantEachOnce(t, n, device)
		}
	}
}

// wantFares asks of addresses whether they are in the zones of Fates, Visits and Delivers just if their packets' traces say so.
func wantFares(t *testing.T, n api.Network, asked []uint32) {
	t.Helper()
	for a := range n.T.Ports {
		traces := map[uint32]api.Trace{}
		for _, x := range asked {
			traces[x] = trace(t, n, a, x)
		}
		fates, e := Fates(n, a)
		for f, z := range fates {
			wantHas(t, "Fates", z, e, asked, func(x uint32) bool { return traces[x].Fate == api.Fate(f) })
		}
		for b := range n.T.Ports {
			z, e := Visits(n, a, b)
			wantHas(t, "Visits", z, e, asked, func(x uint32) bool { return slices.Contains(traces[x].Devices, b) })
			z, e = Delivers(n, a, b)
			wantHas(t, "Delivers", z, e, asked, func(x uint32) bool {
				return traces[x].Fate == api.Delivered && traces[x].Out.Device == b
			})
		}
	}
}

// P11.3 (as packets fare): Fates, Visits and Delivers, asked of boundaries, their neighbours and drawn addresses.
func TestFares(t *testing.T) {
	for seed, n := range append(rights(), drawn(80)...) {
		mix := mixer(seed)
		wantFares(t, n, mix.asked(n))
	}
}

// wantDiffersAsFares asks of addresses whether they are in the zones of Differs just if their packets' traces are not alike.
func wantDiffersAsFares(t *testing.T, x, y api.Network, asked []uint32) {
	t.Helper()
	for device := range min(len(x.T.Ports), len(y.T.Ports)) {
		z, e := Differs(x, y, device)
		wantHas(t, "Differs", z, e, asked, func(a uint32) bool {
			return !fate.Same(trace(t, x, device, a), trace(t, y, device, a))
		})
	}
}

// P11.3: Differs, of networks that differ in a little, and in all.
func TestDiffersAsFares(t *testing.T) {
	l := append(rights(), drawn(80)...)
	for seed, x := range l {
		mix := mixer(seed)
		near, away := mix.other(x), l[(seed+1)%len(l)]
		wantDiffersAsFares(t, x, near, mix.asked(x, near))
		wantDiffersAsFares(t, x, away, mix.asked(x, away))
	}
}

// P11.3: within a part of a cut all packets have one trace, from each device.
func TestPartsFareAlike(t *testing.T) {
	for _, n := range append(rights(), drawn(60)...) {
		parts, e := Cut([]api.Network{n}, all())
		for _, r := range parts {
			for device := range n.T.Ports {
				x := trace(t, n, device, r.From)
				for _, a := range []uint32{r.From + (r.To-r.From)/3, r.From + (r.To-r.From)/2, r.To} {
					if y := trace(t, n, device, a); e != api.OK || !fate.Same(x, y) {
						t.Fatalf("%v: from %d: %d is %v, %d is %v", n, device, r.From, x, a, y)
					}
				}
			}
		}
	}
}

// P11.3: what the zones tell of each other: who is delivered is so by just one device, to which he comes.
func TestZonesAgree(t *testing.T) {
	for _, n := range append(rights(), drawn(80)...) {
		for a := range n.T.Ports {
			fates, _ := Fates(n, a)
			var both []api.Range
			for b := range n.T.Ports {
				comes, _ := Visits(n, a, b)
				leaves, _ := Delivers(n, a, b)
				if len(zone.And(both, leaves)) != 0 || len(zone.Minus(leaves, comes)) != 0 {
					t.Fatalf("%v: from %d: delivered by %d %v, of %v", n, a, b, leaves, comes)
				}
				both = zone.Or(both, leaves)
			}
			if !slices.Equal(both, fates[api.Delivered]) {
				t.Fatalf("%v: from %d: delivered by any %v; %v", n, a, both, fates)
			}
		}
	}
}

// P11.3: who does not differ has one fate in both, and comes to the same devices.
func TestDiffersAgrees(t *testing.T) {
	for seed, x := range append(rights(), drawn(80)...) {
		mix := mixer(seed)
		y := mix.other(x)
		for device := range x.T.Ports {
			z, _ := Differs(x, y, device)
			same := zone.Minus(zone.All(), z)
			one, _ := Fates(x, device)
			other, _ := Fates(y, device)
			for f := range one {
				if !slices.Equal(zone.And(one[f], same), zone.And(other[f], same)) {
					t.Fatalf("%v; %v: from %d: fate %d: %v, %v, but for %v", x, y, device, f, one[f], other[f], z)
				}
			}
			for b := range x.T.Ports {
				one, _ := Visits(x, device, b)
				other, _ := Visits(y, device, b)
				if !slices.Equal(zone.And(one, same), zone.And(other, same)) {
					t.Fatalf("%v; %v: from %d to %d: %v, %v, but for %v", x, y, device, b, one, other, z)
				}
			}
		}
	}
}

// P11.1 to P11.3: any network at all, and any other one, made of bytes.
func FuzzFlow(f *testing.F) {
	f.Add([]byte{2, 2, 1}, []byte{0, 1, 1, 0}, []byte{1, 0, 1, 0, 0, 9, 1, 2, 1, 1, 0, 5, 20, 0, 3, 1, 1, 3, 7, 7, 0}, byte(2))
	f.Add([]byte{4}, []byte{0, 0, 0, 1}, []byte{8, 0, 8, 3, 0, 255, 0, 9, 0, 9, 2, 0, 255, 0, 10, 0, 1, 0, 0, 0, 3}, byte(1))
	f.Add([]byte{1, 0, 5}, []byte{0, 0, 9, 0}, []byte{0, 1, 0, 0, 9, 0, 9}, byte(0))
	f.Fuzz(func(t *testing.T, ports, links, rules []byte, kept byte) {
		x := api.Network{}
		for _, p := range ports {
			x.T.Ports = append(x.T.Ports, int(int8(p)))
		}
		for ; len(links) >= 4; links = links[4:] {
			x.T.Links = append(x.T.Links, ln(int(int8(links[0])), int(int8(links[1])), int(int8(links[2])), int(int8(links[3]))))
		}
		for ; len(rules) >= 7; rules = rules[7:] {
			x.Rules = append(x.Rules, api.Rule{ID: int(rules[0]), Device: int(int8(rules[1])), Prio: int(int8(rules[2])), Kind: api.RuleKind(int8(rules[3])), R: rg(uint32(rules[4])<<24, uint32(rules[5])<<24+1<<24-1), Port: int(int8(rules[6]))})
		}
		y := twin(x)
		y.Rules = y.Rules[:min(len(y.Rules), int(kept))]
		askAll(x, y)
		if !fate.Right(x) {
			return
		}
		var mix mixer
		asked := mix.asked(x)
		for device := range x.T.Ports {
			wantEachOnce(t, x, device)
		}
		wantFares(t, x, asked)
		wantDiffersAsFares(t, x, y, asked)
		wantCut(t, "any", []api.Network{y, x}, all(), model([]api.Network{x, y}, all()))
	})
}
