package query

import (
	"slices"
	"testing"

	"waystone/api"
	"waystone/fate"
	"waystone/flow"
)

// pairs are right networks, each with one that has the same topology.
func pairs(drawn int) [][2]api.Network {
	var l [][2]api.Network
	for seed, n := range someOf(drawn) {
		mix := mixer(seed)
		l = append(l, [2]api.Network{n, mix.other(n)}, [2]api.Network{n, mix.other(n)})
	}
	return l
}

// someOf are right networks, and so many drawn ones more.
func someOf(many int) []api.Network { return append(rights(), drawn(30 + many)[30:]...) }

// verdict is that of a right query.
func verdict(t *testing.T, n, other api.Network, q api.Query) api.Verdict {
	t.Helper()
	v, e := Run(n, other, q)
	if e != api.OK || !Right(n, q) {
		t.Fatalf("%+v: %+v, %v", q, v, e)
	}
	return v
}

// wantGenuine asks of a verdict that does not hold for a genuine trace, of a packet from a source, with an address of the range, that breaks the query; and of any verdict that no lesser packet does, of the addresses that are asked.
func wantGenuine(t *testing.T, n, other api.Network, q api.Query, v api.Verdict, asked []uint32) {
	t.Helper()
	if v.Holds {
		if !alike(v, holds()) {
			t.Fatalf("%+v: beside what holds: %+v", q, v)
		}
		v.From, v.Addr = len(n.T.Ports), 0
	} else {
		u, _ := fate.Trace(other, v.From, v.Addr)
		first := len(v.Trace.Devices) > 0 && v.Trace.Devices[0] == v.From
		if !first || !fate.Genuine(n, v.Addr, v.Trace) || !Breaks(n, other, q, v.Trace, u) || !slices.Contains(Sources(n, q), v.From) || v.Addr < q.R.From || v.Addr > q.R.To {
			t.Fatalf("%+v: %+v", q, v)
		}
	}
	for device := range n.T.Ports {
		for _, a := range asked {
			lesser := device < v.From || device == v.From && a < v.Addr
			if lesser && q.R.From <= a && a <= q.R.To && isBroken(t, n, other, q, device, a) {
				t.Fatalf("%+v: %+v, but a packet from %d with %d breaks it", q, v, device, a)
			}
		}
	}
}

// P12.2 (a packet that breaks it), Q2: asked of boundaries, of their neighbours and of drawn addresses, over drawn networks and all kinds.
func TestGenuine(t *testing.T) {
	for seed, p := range pairs(80) {
		mix := mixer(seed)
		for range 4 {
			for _, k := range kinds() {
				q := mix.query(p[0], k, mix.span(p[0], p[1]))
				asked := append(mix.asked(p[0], p[1]), q.R.From, q.R.To, q.R.From+1, q.R.To-1)
				v := verdict(t, p[0], p[1], q)
				wantGenuine(t, p[0], p[1], q, v, asked)
				if w := least(t, p[0], p[1], q, asked); !alike(v, w) || !Same(v, w) {
					t.Fatalf("%v: %+v: %+v, not %+v", p, q, v, w)
				}
			}
		}
	}
}

// Q2, P12.1: small networks, all of whose queries are asked, over all few addresses, one by one.
func TestEveryQuery(t *testing.T) {
	for seed, p := range pairs(10) {
		n, ends := p[0], len(p[0].T.Ports)
		mix := mixer(seed)
		r := mix.span(n, p[1])
		r.To = r.From + min(r.To-r.From, 9)
		var asked []uint32
		for a := r.From; a-r.From <= r.To-r.From; a++ {
			asked = append(asked, a)
			if a == last {
				break
			}
		}
		var l []api.Query
		for a := range ends {
			for b := range ends {
				l = append(l, reach(a, b, r), isolated(a, b, r))
				for w := range ends {
					l = append(l, waypoint(a, b, w, r))
				}
			}
		}
		for _, q := range append(l, noLoop(r), noHole(r), same(r)) {
			if v, w := verdict(t, n, p[1], q), least(t, n, p[1], q, asked); !alike(v, w) {
				t.Fatalf("%v: %+v: %+v, not %+v", p, q, v, w)
			}
		}
	}
}

// Q1, P12.1: Breaks, of packets' own traces, is as the chapter tells it, of all devices, though they be no sources.
func TestBreaksAsTold(t *testing.T) {
	for seed, p := range pairs(40) {
		mix := mixer(seed)
		asked := mix.asked(p[0], p[1])
		for _, k := range kinds() {
			q := mix.query(p[0], k, all())
			for device := range p[0].T.Ports {
				for _, a := range asked {
					x, y := trace(t, p[0], device, a), trace(t, p[1], device, a)
					got, is := Breaks(p[0], p[1], q, x, y), isBroken(t, p[0], p[1], q, device, a)
					if got != is || got && !slices.Contains(Sources(p[0], q), device) {
						t.Fatalf("%v: %+v: Breaks(%v, %v): %v", p, q, x, y, got)
					}
				}
			}
		}
	}
}

// wantParts asks a query over parts of its range: of one that holds for the whole all hold; one that does not is broken, in the part that has its address, by no other packet, and nothing breaks it from that device ahead of it.
func wantParts(t *testing.T, n, other api.Network, q api.Query, parts []api.Range) {
	t.Helper()
	v := verdict(t, n, other, q)
	for _, q.R = range parts {
		w := verdict(t, n, other, q)
		switch has := q.R.From <= v.Addr && v.Addr <= q.R.To; {
		case v.Holds && !w.Holds:
			t.Fatalf("%+v: holds for more, but %+v", q, w)
		case !v.Holds && has && !alike(v, w):
			t.Fatalf("%+v: %+v, of more %+v", q, w, v)
		case !v.Holds && !w.Holds && (w.From < v.From || w.From == v.From && w.Addr < v.Addr):
			t.Fatalf("%+v: %+v, of more %+v", q, w, v)
		}
	}
}

// P12.3 (some of it): the parts of a cut, single addresses, and drawn ranges within, over drawn networks and all kinds.
func TestParts(t *testing.T) {
	held := 0
	for seed, p := range pairs(60) {
		mix := mixer(seed)
		for _, k := range kinds() {
			q := mix.query(p[0], k, mix.span(p[0], p[1]))
			if v := verdict(t, p[0], p[1], q); v.Holds && q.R.From < q.R.To {
				held++
			}
			parts, e := flow.Cut([]api.Network{p[0]}, q.R)
			if e != api.OK {
				t.Fatal(e)
			}
			parts = append(parts, q.R, rg(q.R.From, q.R.From), rg(q.R.To, q.R.To))
			for range 10 {
				x := mix.span(p[0], p[1])
				if from, to := max(x.From, q.R.From), min(x.To, q.R.To); from <= to {
					parts = append(parts, rg(from, to))
				}
			}
			wantParts(t, p[0], p[1], q, parts)
		}
	}
	if held < 100 {
		t.Errorf("too few hold: %d", held)
	}
}

// P12.3: a range holds just if each of the parts into which it is cut does, and its verdict is the least of theirs.
func TestPartsTogether(t *testing.T) {
	for seed, p := range pairs(40) {
		mix := mixer(seed)
		for _, k := range kinds() {
			q := mix.query(p[0], k, mix.span(p[0], p[1]))
			v := verdict(t, p[0], p[1], q)
			parts, _ := flow.Cut([]api.Network{p[0], p[1]}, q.R)
			first := holds()
			for _, q.R = range parts {
				w := verdict(t, p[0], p[1], q)
				if !w.Holds && (first.Holds || w.From < first.From) {
					first = w
				}
			}
			if !alike(v, first) {
				t.Fatalf("%+v: %+v, of its parts %+v", q, v, first)
			}
		}
	}
}

// Q2: what queries tell of each other: where none comes to B, none is delivered there; where all are delivered there by W, some come to W; and who is delivered at B has come to A and to B.
func TestKindsAgree(t *testing.T) {
	for seed, n := range someOf(40) {
		mix := mixer(seed)
		for range 10 {
			q := mix.query(n, api.Waypoint, mix.span(n))
			apart := verdict(t, n, n, isolated(q.A, q.B, q.R))
			reaches := verdict(t, n, n, reach(q.A, q.B, q.R))
			past := verdict(t, n, n, q)
			switch {
			case apart.Holds && (reaches.Holds || !past.Holds):
				t.Fatalf("%+v: isolated, but %+v, %+v", q, reaches, past)
			case reaches.Holds && past.Holds && verdict(t, n, n, isolated(q.A, q.W, q.R)).Holds:
				t.Fatalf("%+v: all come to W, but are isolated from it", q)
			case !verdict(t, n, n, waypoint(q.A, q.B, q.B, q.R)).Holds || !verdict(t, n, n, waypoint(q.A, q.B, q.A, q.R)).Holds:
				t.Fatalf("%+v: delivered without coming there", q)
			}
			if !verdict(t, n, n, same(q.R)).Holds {
				t.Fatalf("%v is not the same as itself", n)
			}
		}
	}
}

// Q2: Same is the same both ways, but for the trace, which is that of the network that is asked.
func TestSameBothWays(t *testing.T) {
	for seed, p := range pairs(80) {
		mix := mixer(seed)
		for range 5 {
			q := same(mix.span(p[0], p[1]))
			v, w := verdict(t, p[0], p[1], q), verdict(t, p[1], p[0], q)
			if v.Holds != w.Holds || v.From != w.From || v.Addr != w.Addr || !v.Holds && fate.Same(v.Trace, w.Trace) {
				t.Fatalf("%+v: %+v; the other way round %+v", q, v, w)
			}
		}
	}
}

// P12.1 to P12.3: any network at all, any other one, and any query, made of bytes.
func FuzzQuery(f *testing.F) {
	f.Add([]byte{2, 2, 1}, []byte{0, 1, 1, 0}, []byte{1, 0, 1, 0, 0, 9, 1, 2, 1, 1, 0, 5, 20, 0, 3, 1, 1, 3, 7, 7, 0}, byte(2), byte(0), byte(0), byte(1), byte(0), uint32(0), uint32(last), "")
	f.Add([]byte{4}, []byte{0, 0, 0, 1}, []byte{8, 0, 8, 3, 0, 255, 0, 9, 0, 9, 2, 0, 255, 0, 10, 0, 1, 0, 0, 0, 3}, byte(1), byte(5), byte(0), byte(0), byte(0), uint32(7), uint32(9), "x")
	f.Add([]byte{1, 0, 5}, []byte{0, 0, 9, 0}, []byte{0, 1, 0, 0, 9, 0, 9}, byte(0), byte(4), byte(0), byte(2), byte(1), uint32(9), uint32(7), "")
	f.Fuzz(func(t *testing.T, ports, links, rules []byte, kept, kind, a, b, w byte, from, to uint32, other string) {
		x := api.Network{}
		for _, p := range ports {
			x.T.Ports = append(x.T.Ports, int(int8(p)))
		}
		for ; len(links) >= 4; links = links[4:] {
			x.T.Links = append(x.T.Links, ln(int(int8(links[0])), int(int8(links[1])), int(int8(links[2])), int(int8(links[3]))))
		}
		for ; len(rules) >= 7; rules = rules[7:] {
			x.Rules = append(x.Rules, api.Rule{ID: int(rules[0]), Device: int(int8(rules[1])), Prio: int(int8(rules[2])), Kind: api.RuleKind(int8(rules[3])), R: rg(uint32(rules[4])<<24, uint32(rules[5])<<24+1<<24-1), Port: int(int8(rules[6]))})
		}
		y := twin(x)
		y.Rules = y.Rules[:min(len(y.Rules), int(kept))]
		q := api.Query{Kind: api.QueryKind(int8(kind)), A: int(int8(a)), B: int(int8(b)), W: int(int8(w)), R: rg(from, to), Other: other}
		v, e := Run(x, y, q)
		if (e == api.OK) != Right(x, q) || e != api.OK && (e != api.ErrQuery || !alike(v, api.Verdict{})) {
			t.Fatalf("%+v: %+v, %v", q, v, e)
		}
		if !fate.Right(x) || e != api.OK {
			return
		}
		var mix mixer
		asked := mix.asked(x)
		wantGenuine(t, x, y, q, v, asked)
		if w := least(t, x, y, q, asked); !alike(v, w) {
			t.Fatalf("%+v: %+v, not %+v", q, v, w)
		}
	})
}
