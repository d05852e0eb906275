package tree

import (
	"cmp"
	"math"
	"slices"
	"testing"

	"waystone/api"
)

const greatest = math.MaxUint64

// model is what a tree should have: its pairs, rising, in a list of its own.
type model []Pair[int]

// search is where a key stands, or would stand.
func (m model) search(k uint64) (int, bool) {
	return slices.BinarySearchFunc(m, k, func(p Pair[int], k uint64) int { return cmp.Compare(p.Key, k) })
}

// with is the model with a value at a key.
func (m model) with(k uint64, v int) model {
	i, has := m.search(k)
	if has {
		return slices.Replace(slices.Clone(m), i, i+1, Pair[int]{k, v})
	}
	return slices.Insert(slices.Clone(m), i, Pair[int]{k, v})
}

// without is the model without a key that it has.
func (m model) without(k uint64) model {
	i, _ := m.search(k)
	return slices.Delete(slices.Clone(m), i, i+1)
}

// one is the i-th pair, if there is one.
func (m model) one(i int) (Pair[int], bool) {
	if i < 0 || i >= len(m) {
		return Pair[int]{}, false
	}
	return m[i], true
}

// near are the keys of a model, those beside each, and the ends of all keys.
func (m model) near() []uint64 {
	l := []uint64{0, 1, 1 << 63, greatest - 1, greatest}
	for _, p := range m {
		l = append(l, p.Key-1, p.Key, p.Key+1)
	}
	slices.Sort(l)
	return slices.Compact(l)
}

// plant is a tree with its keys put in this order; each key's value is its place there.
func plant(t *testing.T, keys ...uint64) (*Tree[int], model) {
	t.Helper()
	x, m := New[int](), model(nil)
	for i, k := range keys {
		x, m = mustPut(t, x, k, i), m.with(k, i)
	}
	return x, m
}

// mustPut is a tree with a value at a key, for which there is room.
func mustPut(t *testing.T, x *Tree[int], k uint64, v int) *Tree[int] {
	t.Helper()
	y, e := x.Put(k, v)
	if e != api.OK {
		t.Fatalf("Put(%d, %d) into %d keys: %v", k, v, x.Len(), e)
	}
	return y
}

// mustDrop is a tree without a key that it has.
func mustDrop(t *testing.T, x *Tree[int], k uint64) *Tree[int] {
	t.Helper()
	y, e := x.Drop(k)
	if e != api.OK {
		t.Fatalf("Drop(%d) of %d keys: %v", k, x.Len(), e)
	}
	return y
}

// wantPairs asks for just a model's pairs, and for a tree that is low and rightly built.
func wantPairs(t *testing.T, what string, x *Tree[int], m model) {
	t.Helper()
	if got := x.Pairs(); !slices.Equal(got, m) || x.Len() != len(m) {
		t.Fatalf("%s: %d keys, %v; want %v", what, x.Len(), got, m)
	}
	wantLow(t, what, x)
}

// wantAll asks every call that reads, at all keys and places that could matter, for what the model has.
func wantAll(t *testing.T, what string, x *Tree[int], m model) {
	t.Helper()
	wantPairs(t, what, x, m)
	for _, i := range []int{math.MinInt, -len(m) - 1, -len(m), -2, -1, len(m), len(m) + 1, math.MaxInt} {
		wantAt(t, what, x, m, i)
	}
	for i := range m {
		wantAt(t, what, x, m, i)
	}
	for _, k := range m.near() {
		wantAround(t, what, x, m, k)
	}
}

// wantAt asks At.
func wantAt(t *testing.T, what string, x *Tree[int], m model, i int) {
	t.Helper()
	want, has := m.one(i)
	if p, is := x.At(i); p != want || is != has {
		t.Fatalf("%s: At(%d): %v, %v; want %v, %v", what, i, p, is, want, has)
	}
}

// wantAround asks Get, Floor, Ceil and Split at a key.
func wantAround(t *testing.T, what string, x *Tree[int], m model, k uint64) {
	t.Helper()
	i, has := m.search(k)
	want := 0
	if has {
		want = m[i].Value
	}
	if v, is := x.Get(k); v != want || is != has {
		t.Fatalf("%s: Get(%d): %v, %v; want %v, %v", what, k, v, is, want, has)
	}
	from := i - 1
	if has {
		from = i
	}
	low, isLow := m.one(from)
	if p, is := x.Floor(k); p != low || is != isLow {
		t.Fatalf("%s: Floor(%d): %v, %v; want %v, %v", what, k, p, is, low, isLow)
	}
	up, isUp := m.one(i)
	if p, is := x.Ceil(k); p != up || is != isUp {
		t.Fatalf("%s: Ceil(%d): %v, %v; want %v, %v", what, k, p, is, up, isUp)
	}
	a, b := x.Split(k)
	wantPairs(t, what+": below", a, m[:i])
	wantPairs(t, what+": the others", b, m[i:])
}

// orders calls do with every order of the keys.
func orders(keys []uint64, do func([]uint64)) {
	var from func(n int)
	l := slices.Clone(keys)
	from = func(n int) {
		if n == len(l) {
			do(l)
			return
		}
		for i := n; i < len(l); i++ {
			l[n], l[i] = l[i], l[n]
			from(n + 1)
			l[n], l[i] = l[i], l[n]
		}
	}
	from(0)
}

// mixer is numbers that look mixed, the same ones each time.
type mixer uint64

// next is the next number.
func (m *mixer) next() uint64 {
	*m = *m*6364136223846793005 + 1442695040888963407
	x := uint64(*m)
	return (x ^ x>>29) * 0x9E3779B97F4A7C15 >> 11
}

// below is the next number below n.
func (m *mixer) below(n int) int { return int(m.next() % uint64(n)) }
