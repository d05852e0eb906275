package prefix

import (
	"math"
	"slices"
	"testing"

	"waystone/api"
)

const last = api.MaxAddr

// marks are addresses at the edges, and some between.
func marks() []uint32 {
	l := []uint32{0, 1, 2, 3, 5, 0x01020304, 0x0a000000, 0x55555555, 0xaaaaaaaa, 0xc0a80100, last - 2, last - 1, last}
	for k := 2; k < 32; k++ {
		p := uint32(1) << k
		l = append(l, p-1, p, p+1, last-p, last-p+1, last-p+2)
	}
	return l
}

// power is 2 to the n, for n of 0 to 32, counted by doubling.
func power(n int) uint64 {
	p := uint64(1)
	for range n {
		p *= 2
	}
	return p
}

// wantWrong asks for the answers of a prefix that is not right.
func wantWrong(t *testing.T, p api.Prefix) {
	t.Helper()
	r, e := Range(p)
	if Right(p) || e != api.ErrPrefix || r != (api.Range{}) || Text(p) != "" {
		t.Errorf("%v: Right %v, Range %v, %v, Text %q", p, Right(p), r, e, Text(p))
	}
}

// wantOf asks for the prefix of a range.
func wantOf(t *testing.T, r api.Range, want api.Prefix, is bool) {
	t.Helper()
	if p, ok := Of(r); p != want || ok != is {
		t.Errorf("Of(%v): %v, %v; want %v, %v", r, p, ok, want, is)
	}
}

// P2.1: Right and Range, of each Len: a prefix's addresses are as many as can be told apart by the bits behind.
func TestEachLen(t *testing.T) {
	for n := 0; n <= 32; n++ {
		size := power(32 - n)
		for _, a := range marks() {
			first := uint32(uint64(a) / size * size)
			p := api.Prefix{Addr: first, Len: n}
			want := api.Range{From: first, To: uint32(uint64(first) + size - 1)}
			r, e := Range(p)
			if !Right(p) || r != want || e != api.OK {
				t.Fatalf("%v: Right %v, %v, %v; want %v", p, Right(p), r, e, want)
			}
			wantOf(t, r, p, true)
			if a != first {
				wantWrong(t, api.Prefix{Addr: a, Len: n})
			}
		}
	}
}

// P2.1: a bit set behind the first Len ones, each of them by itself.
func TestBitBehind(t *testing.T) {
	for n := 0; n <= 32; n++ {
		for k := range 32 {
			p := api.Prefix{Addr: 1 << (31 - k), Len: n}
			if k >= n {
				wantWrong(t, p)
			} else if !Right(p) {
				t.Errorf("%v is right", p)
			}
		}
	}
}

// P2.1: a Len that is none.
func TestWrongLen(t *testing.T) {
	for _, n := range []int{-1, -2, -32, -33, -64, 33, 34, 63, 64, 65, 256, 1 << 32, math.MinInt, math.MaxInt} {
		for _, a := range []uint32{0, 1, 1 << 31, last} {
			wantWrong(t, api.Prefix{Addr: a, Len: n})
		}
	}
}

// P2.1: Of, where there is none: what is not as long as a prefix, lies askew, or is no range.
func TestOfNone(t *testing.T) {
	for _, r := range []api.Range{
		{From: 1, To: 2}, {From: 0, To: 2}, {From: 1, To: 3}, {From: 3, To: 4}, {From: 2, To: 5}, {From: 1, To: 4},
		{From: 0, To: last - 1}, {From: 1, To: last}, {From: 1 << 31, To: last - 1}, {From: 1<<31 - 1, To: 1 << 31},
		{From: 1, To: 0}, {From: 2, To: 1}, {From: 3, To: 2}, {From: 4, To: 3}, {From: last, To: 0}, {From: last, To: last - 1}, {From: 1 << 31, To: 1<<31 - 1},
	} {
		wantOf(t, r, api.Prefix{}, false)
	}
}

// P2.1: Of, of each range of few addresses, at the beginning and at the end of all addresses.
func TestOfSmall(t *testing.T) {
	for _, base := range []uint32{0, 1<<31 - 32, last - 63} {
		want := map[api.Range]api.Prefix{}
		for n := 26; n <= 32; n++ {
			for a := uint64(0); a < 64; a += power(32 - n) {
				from := base + uint32(a)
				if uint64(from)%power(32-n) == 0 {
					want[api.Range{From: from, To: from + uint32(power(32-n)-1)}] = api.Prefix{Addr: from, Len: n}
				}
			}
		}
		for x := range uint32(64) {
			for y := range uint32(64) {
				r := api.Range{From: base + x, To: base + y}
				p, is := want[r]
				wantOf(t, r, p, is)
			}
		}
	}
}

// wantSplit asks for the prefixes of a range.
func wantSplit(t *testing.T, r api.Range, want []api.Prefix) {
	t.Helper()
	if l, e := Split(r); e != api.OK || !slices.Equal(l, want) {
		t.Errorf("Split(%v): %v, %v; want %v", r, l, e, want)
	}
}

// P2.1: Split, of ordinary ranges, of one address, of all, and of those that end with the last one.
func TestSplitKnown(t *testing.T) {
	wantSplit(t, api.Range{From: 1, To: 6}, []api.Prefix{{Addr: 1, Len: 32}, {Addr: 2, Len: 31}, {Addr: 4, Len: 31}, {Addr: 6, Len: 32}})
	wantSplit(t, api.Range{From: 0, To: 4}, []api.Prefix{{Addr: 0, Len: 30}, {Addr: 4, Len: 32}})
	wantSplit(t, api.Range{From: 10 << 24, To: 11<<24 - 1}, []api.Prefix{{Addr: 10 << 24, Len: 8}})
	wantSplit(t, api.Range{From: 0, To: last}, []api.Prefix{{Addr: 0, Len: 0}})
	wantSplit(t, api.Range{From: 1 << 31, To: last}, []api.Prefix{{Addr: 1 << 31, Len: 1}})
	wantSplit(t, api.Range{From: 1<<31 - 1, To: 1 << 31}, []api.Prefix{{Addr: 1<<31 - 1, Len: 32}, {Addr: 1 << 31, Len: 32}})
	wantSplit(t, api.Range{From: last - 2, To: last}, []api.Prefix{{Addr: last - 2, Len: 32}, {Addr: last - 1, Len: 31}})
	for _, a := range marks() {
		wantSplit(t, api.Range{From: a, To: a}, []api.Prefix{{Addr: a, Len: 32}})
	}
}

// P2.1: Split, of a range whose From is above its To.
func TestSplitWrong(t *testing.T) {
	for _, a := range marks() {
		for _, b := range marks() {
			if a <= b {
				continue
			}
			r := api.Range{From: a, To: b}
			if l, e := Split(r); e != api.ErrPrefix || len(l) != 0 {
				t.Fatalf("Split(%v): %v, %v", r, l, e)
			}
		}
	}
}

// least is how few prefixes a right range can be, found by trying every size at every place.
func least(r api.Range) int {
	count := int(r.To-r.From) + 1
	few := make([]int, count+1) // from the place on to the end
	for at := count - 1; at >= 0; at-- {
		few[at] = math.MaxInt
		for size := 1; at+size <= count && (uint64(r.From)+uint64(at))%uint64(size) == 0; size *= 2 {
			few[at] = min(few[at], 1+few[at+size])
		}
	}
	return few[0]
}

// sum is how many prefixes a range needs, asked of the halves of all addresses, and of theirs, on and on.
func sum(r api.Range, from, size uint64) int {
	to := from + size - 1
	if uint64(r.From) > to || uint64(r.To) < from {
		return 0
	}
	if uint64(r.From) <= from && to <= uint64(r.To) {
		return 1
	}
	return sum(r, from, size/2) + sum(r, from+size/2, size/2)
}

// wantTiles asks whether a range is split into so many right prefixes, one behind the other, and nothing else.
func wantTiles(t *testing.T, r api.Range, count int) {
	t.Helper()
	l, e := Split(r)
	if e != api.OK || len(l) != count {
		t.Fatalf("Split(%v): %v, %v; want %d prefixes", r, l, e, count)
	}
	next := uint64(r.From)
	for _, p := range l {
		if p.Len < 0 || p.Len > 32 || uint64(p.Addr) != next || uint64(p.Addr)%power(32-p.Len) != 0 {
			t.Fatalf("Split(%v): %v, at %v", r, l, p)
		}
		next += power(32 - p.Len)
	}
	if next != uint64(r.To)+1 {
		t.Fatalf("Split(%v): %v ends ahead of %d", r, l, next)
	}
}

// P2.2: all ranges within a few addresses, at the beginning, across the middle and at the end.
func TestFewestSmall(t *testing.T) {
	for _, base := range []uint32{0, 1<<31 - 32, 1<<16 - 30, last - 63} {
		for x := range uint32(64) {
			for y := x; y < 64; y++ {
				r := api.Range{From: base + x, To: base + y}
				wantTiles(t, r, least(r))
			}
		}
	}
	r := api.Range{From: 12345, To: 98765}
	wantTiles(t, r, least(r))
}

// P2.2: great ranges.
func TestFewestGreat(t *testing.T) {
	for _, a := range marks() {
		for _, b := range marks() {
			if a <= b {
				r := api.Range{From: a, To: b}
				wantTiles(t, r, sum(r, 0, 1<<32))
			}
		}
	}
}

// P2.2: the range that takes the most prefixes, and those beside it.
func TestMostPrefixes(t *testing.T) {
	wantTiles(t, api.Range{From: 1, To: last - 1}, 62)
	wantTiles(t, api.Range{From: 0, To: last - 1}, 32)
	wantTiles(t, api.Range{From: 1, To: last}, 32)
	wantTiles(t, api.Range{From: 2, To: last - 1}, 61)
	wantTiles(t, api.Range{From: 1, To: last - 2}, 61)
}

// P2, and rule 4: each answer is memory of its own.
func TestSplitOwnMemory(t *testing.T) {
	r := api.Range{From: 1, To: last - 1}
	x, _ := Split(r)
	y, _ := Split(r)
	want := slices.Clone(y)
	x = x[:cap(x)]
	for i := range x {
		x[i] = api.Prefix{Addr: 7, Len: 7}
	}
	z, _ := Split(r)
	if !slices.Equal(y, want) || !slices.Equal(z, want) {
		t.Errorf("memory is shared: %v, %v", y, z)
	}
}

// P2.1: what is yielded may be left off at any time.
func TestPiecesLeftOff(t *testing.T) {
	n := 0
	for range pieces(api.Range{From: 1, To: last - 1}) {
		n++
		if n == 3 {
			break
		}
	}
	if n != 3 {
		t.Errorf("%d prefixes", n)
	}
}

// P1, and P2.2: any range at all.
func FuzzSplit(f *testing.F) {
	f.Add(uint32(1), uint32(last-1))
	f.Add(uint32(0), uint32(last))
	f.Fuzz(func(t *testing.T, a, b uint32) {
		if a > b {
			a, b = b, a
		}
		r := api.Range{From: a, To: b}
		wantTiles(t, r, sum(r, 0, 1<<32))
		if p, is := Of(r); is != (sum(r, 0, 1<<32) == 1) || !is && p != (api.Prefix{}) {
			t.Fatalf("Of(%v): %v, %v", r, p, is)
		}
	})
}
