package zone

import (
	"slices"
	"testing"

	"waystone/api"
)

// wantLaws asks for the laws of sets, of three right zones; zones are the same if their ranges are.
func wantLaws(t *testing.T, x, y, z []api.Range) {
	t.Helper()
	not := func(z []api.Range) []api.Range { return Minus(All(), z) }
	for i, law := range []struct{ one, other []api.Range }{
		{And(x, y), And(y, x)},
		{Or(x, y), Or(y, x)},
		{And(x, And(y, z)), And(And(x, y), z)},
		{Or(x, Or(y, z)), Or(Or(x, y), z)},
		{And(x, Or(y, z)), Or(And(x, y), And(x, z))},
		{Or(x, And(y, z)), And(Or(x, y), Or(x, z))},
		{And(x, Or(x, y)), x},
		{Or(x, And(x, y)), x},
		{not(And(x, y)), Or(not(x), not(y))},
		{not(Or(x, y)), And(not(x), not(y))},
		{not(not(x)), x},
		{Or(x, not(x)), All()},
		{And(x, not(x)), nil},
		{Minus(x, y), And(x, not(y))},
		{Minus(x, And(y, z)), Or(Minus(x, y), Minus(x, z))},
		{Minus(x, Or(y, z)), And(Minus(x, y), Minus(x, z))},
		{Minus(Minus(x, y), z), Minus(x, Or(y, z))},
		{Minus(x, Minus(y, z)), Or(Minus(x, y), And(x, z))},
		{Or(Minus(x, y), And(x, y)), x},
		{And(Minus(x, y), y), nil},
	} {
		if !slices.Equal(law.one, law.other) {
			t.Fatalf("law %d, of %v, %v, %v: %v; %v", i, x, y, z, law.one, law.other)
		}
	}
	if Count(Or(x, y))+Count(And(x, y)) != Count(x)+Count(y) {
		t.Fatalf("Count, of %v, %v", x, y)
	}
}

// P3.2: the laws of sets, of every three zones of few cells.
func TestLaws(t *testing.T) {
	for _, c := range []cells{
		row(0, 4),
		row(last-3, 4),
		{{From: 0, To: 0}, {From: 1, To: 1<<31 - 1}, {From: 1 << 31, To: last - 1}, {From: last, To: last}},
	} {
		for x := range c.masks() {
			for y := range c.masks() {
				for z := range c.masks() {
					wantLaws(t, c.zone(x), c.zone(y), c.zone(z))
				}
			}
		}
	}
}

// zoneOf makes a zone of bytes, two a range, of which every other one ends near the last address.
func zoneOf(t *testing.T, l []byte) []api.Range {
	t.Helper()
	var z []api.Range
	for i := 0; i+1 < len(l); i += 2 {
		a, b := uint32(l[i]), uint32(l[i+1])
		switch i / 2 % 4 {
		case 1:
			a, b = last-a, last-b
		case 3:
			b = last - b
		}
		z = append(z, api.Range{From: min(a, b), To: max(a, b)})
	}
	out, e := Of(z)
	if e != api.OK || !Right(out) {
		t.Fatalf("Of(%v): %v, %v", z, out, e)
	}
	for a := range uint32(256) {
		for _, b := range []uint32{a, last - a} {
			is := slices.ContainsFunc(z, func(r api.Range) bool { return r.From <= b && b <= r.To })
			if Has(out, b) != is {
				t.Fatalf("Of(%v): %v has %d: not %v", z, out, b, is)
			}
		}
	}
	return out
}

// P3.1, P3.2: any zones at all, address by address, and by the laws.
func FuzzLaws(f *testing.F) {
	f.Add([]byte{3, 5, 6, 6, 9, 12}, []byte{0, 3, 0, 0, 5, 10}, []byte{0, 0, 0, 0, 1, 1, 0, 0})
	f.Add([]byte{0, 255, 255, 0}, []byte{}, []byte{7})
	f.Add([]byte{9, 1, 8, 2, 7, 3, 200, 4, 6, 5}, []byte{10, 20, 10, 20, 21, 30}, []byte{255, 255, 255, 255})
	f.Fuzz(func(t *testing.T, l, m, n []byte) {
		x, y, z := zoneOf(t, l), zoneOf(t, m), zoneOf(t, n)
		wantLaws(t, x, y, z)
		and, or, minus := And(x, y), Or(x, y), Minus(x, y)
		if !Right(and) || !Right(or) || !Right(minus) {
			t.Fatalf("of %v, %v: %v, %v, %v", x, y, and, or, minus)
		}
		for i := range uint32(512) {
			a := i - 256 // from near the last address on, round to the first ones
			inX, inY := Has(x, a), Has(y, a)
			if Has(and, a) != (inX && inY) || Has(or, a) != (inX || inY) || Has(minus, a) != (inX && !inY) {
				t.Fatalf("of %v, %v, at %d: %v, %v, %v", x, y, a, and, or, minus)
			}
		}
	})
}
