package tree

import (
	"fmt"
	"testing"

	"waystone/api"
)

// empties are trees without keys, come to in every way, a nil one and the zero value among them.
func empties(t *testing.T) map[string]*Tree[int] {
	t.Helper()
	one := mustPut(t, New[int](), 7, 1)
	below, _ := one.Split(7)
	_, others := one.Split(8)
	return map[string]*Tree[int]{"nil": nil, "New": New[int](), "zero": {}, "dropped": mustDrop(t, one, 7), "below": below, "others": others}
}

// P4.1, P1: every call, of a nil tree and an empty one.
func TestEmpty(t *testing.T) {
	for name, x := range empties(t) {
		wantAll(t, name, x, nil)
		if x.Len() != 0 || x.Height() != 0 || len(x.Pairs()) != 0 {
			t.Errorf("%s: %d keys, high %d", name, x.Len(), x.Height())
		}
		for _, k := range []uint64{0, 1, 7, 1 << 63, greatest} {
			if y, e := x.Drop(k); y != nil || e != api.ErrKey {
				t.Errorf("%s: Drop(%d): %v, %v", name, k, y, e)
			}
			wantAll(t, name+" and one", mustPut(t, x, k, 5), model{{k, 5}})
			wantAll(t, name, x, nil)
		}
	}
}

// P4.1: a tree of one key, at key 0, at the greatest and between.
func TestOneKey(t *testing.T) {
	for _, k := range []uint64{0, 1, 2, 9, 1<<32 - 1, 1 << 32, 1<<63 - 1, 1 << 63, greatest - 1, greatest} {
		x := mustPut(t, New[int](), k, 3)
		wantAll(t, "one", x, model{{k, 3}})
		if x.Height() != 1 {
			t.Errorf("%d: high %d", k, x.Height())
		}
		if y, e := x.Drop(k + 1); y != nil || e != api.ErrKey {
			t.Errorf("%d: Drop of the next one: %v, %v", k, y, e)
		}
		wantAll(t, "none", mustDrop(t, x, k), nil)
		wantAll(t, "other value", mustPut(t, x, k, 4), model{{k, 4}})
	}
}

// P4.1: the least key and the greatest one beside each other, which are nowhere near.
func TestEndsOfKeys(t *testing.T) {
	for _, keys := range [][]uint64{{0, greatest}, {greatest, 0}, {greatest, 1 << 63, 0}, {0, 1<<63 - 1, 1 << 63, greatest}} {
		x, m := plant(t, keys...)
		wantAll(t, "ends", x, m)
		wantAll(t, "without the least", mustDrop(t, x, 0), m.without(0))
		wantAll(t, "without the greatest", mustDrop(t, x, greatest), m.without(greatest))
	}
}

// P4.1: what T2 says, written out: at a key, between two, below all and above all.
func TestWrittenOut(t *testing.T) {
	x, _ := plant(t, 30, 10, 20) // values 0, 1, 2
	for _, w := range []struct {
		k               uint64
		floor, ceil     Pair[int]
		isFloor, isCeil bool
		below           int
	}{
		{0, Pair[int]{}, Pair[int]{10, 1}, false, true, 0},
		{9, Pair[int]{}, Pair[int]{10, 1}, false, true, 0},
		{10, Pair[int]{10, 1}, Pair[int]{10, 1}, true, true, 0},
		{11, Pair[int]{10, 1}, Pair[int]{20, 2}, true, true, 1},
		{20, Pair[int]{20, 2}, Pair[int]{20, 2}, true, true, 1},
		{29, Pair[int]{20, 2}, Pair[int]{30, 0}, true, true, 2},
		{30, Pair[int]{30, 0}, Pair[int]{30, 0}, true, true, 2},
		{31, Pair[int]{30, 0}, Pair[int]{}, true, false, 3},
		{greatest, Pair[int]{30, 0}, Pair[int]{}, true, false, 3},
	} {
		if p, is := x.Floor(w.k); p != w.floor || is != w.isFloor {
			t.Errorf("Floor(%d): %v, %v", w.k, p, is)
		}
		if p, is := x.Ceil(w.k); p != w.ceil || is != w.isCeil {
			t.Errorf("Ceil(%d): %v, %v", w.k, p, is)
		}
		if a, b := x.Split(w.k); a.Len() != w.below || b.Len() != 3-w.below {
			t.Errorf("Split(%d): %v, %v", w.k, a.Pairs(), b.Pairs())
		}
	}
	for i, want := range []Pair[int]{{10, 1}, {20, 2}, {30, 0}} {
		if p, is := x.At(i); p != want || !is {
			t.Errorf("At(%d): %v, %v", i, p, is)
		}
	}
}

// P4.1: every set of few keys, and of each every key put and dropped, there or not.
func TestEverySet(t *testing.T) {
	keys := []uint64{0, 1, 3, 1 << 31, 1 << 40, 1 << 63, greatest - 2, greatest}
	for mask := range 1 << len(keys) {
		var l []uint64
		for i := range keys {
			if j := i * 3 % len(keys); mask>>j&1 == 1 {
				l = append(l, keys[j])
			}
		}
		x, m := plant(t, l...)
		wantAll(t, "set", x, m)
		for _, k := range keys {
			wantPairs(t, "put", mustPut(t, x, k, -1), m.with(k, -1))
			if _, has := m.search(k); has {
				wantPairs(t, "dropped", mustDrop(t, x, k), m.without(k))
			} else if y, e := x.Drop(k); y != nil || e != api.ErrKey {
				t.Fatalf("%v: Drop(%d): %v, %v", m, k, y, e)
			}
		}
		wantPairs(t, "as it was", x, m)
	}
}

// P4.1, P4.3: few keys put in every order, and from each tree that comes of it each key dropped.
func TestEveryOrder(t *testing.T) {
	orders([]uint64{0, 2, 4, 6, 8, 10, 12}, func(l []uint64) {
		x, m := plant(t, l...)
		wantPairs(t, "planted", x, m)
		for _, k := range l {
			wantPairs(t, "dropped", mustDrop(t, x, k), m.without(k))
			a, b := x.Split(k)
			c, d := x.Split(k + 1)
			i, _ := m.search(k)
			wantPairs(t, "below", a, m[:i])
			wantPairs(t, "not below", b, m[i:])
			wantPairs(t, "not above", c, m[:i+1])
			wantPairs(t, "above", d, m[i+1:])
		}
	})
}

// P4.1, P4.3: dropped in every order, up to the last key.
func TestEveryDropOrder(t *testing.T) {
	keys := []uint64{1, 2, 3, 5, 8, 13, greatest}
	x0, m0 := plant(t, keys...)
	orders(keys, func(l []uint64) {
		x, m := x0, m0
		for _, k := range l {
			x, m = mustDrop(t, x, k), m.without(k)
			wantPairs(t, "dropped", x, m)
		}
		if x.Len() != 0 || x.Height() != 0 {
			t.Fatalf("%d keys left, high %d", x.Len(), x.Height())
		}
	})
	wantAll(t, "as it was", x0, m0)
}

// P4.1: a value put at a key that is there already is the new one, at each place of a tree, and the zero value counts.
func TestPutAgain(t *testing.T) {
	x, m := plant(t, 9, 4, 6, 2, 8, 0, greatest, 5, 7)
	for _, p := range m {
		for _, v := range []int{100, 0, p.Value} {
			wantAll(t, "put again", mustPut(t, x, p.Key, v), m.with(p.Key, v))
		}
	}
	wantAll(t, "as it was", x, m)
	if v, is := mustPut(t, x, 3, 0).Get(3); v != 0 || !is {
		t.Errorf("the zero value: %v, %v", v, is)
	}
}

// P4.1: MaxSize keys, one more, and a key that is there already.
func TestFull(t *testing.T) {
	x, m := New[int](), make(model, 0, api.MaxSize)
	for i := range api.MaxSize {
		x = mustPut(t, x, uint64(2*i+1), i)
		m = append(m, Pair[int]{uint64(2*i + 1), i})
		if x.Len() != i+1 {
			t.Fatalf("%d keys, of %d", x.Len(), i+1)
		}
	}
	wantAll(t, "full", x, m)
	for _, k := range []uint64{0, 2, api.MaxSize, 2 * api.MaxSize, 1 << 40, greatest} {
		if y, e := x.Put(k, 0); y != nil || e != api.ErrFull {
			t.Errorf("one more, %d: %v, %v", k, y, e)
		}
		if y, e := x.Drop(k); y != nil || e != api.ErrKey {
			t.Errorf("Drop(%d): %v, %v", k, y, e)
		}
	}
	wantPairs(t, "full as before", x, m)
	for _, p := range m {
		wantPairs(t, "put again", mustPut(t, x, p.Key, -5), m.with(p.Key, -5))
	}
	for _, k := range []uint64{1, 777, 2*api.MaxSize - 1} {
		y := mustPut(t, mustDrop(t, x, k), k+1, 9)
		wantPairs(t, "one for another", y, m.without(k).with(k+1, 9))
		if z, e := y.Put(k, 0); z != nil || e != api.ErrFull {
			t.Errorf("full once more: %v, %v", z, e)
		}
	}
	a, b := x.Split(2)
	wantPairs(t, "room in a part", mustPut(t, b, 1, 0), m.with(1, 0))
	wantPairs(t, "room in the other", mustPut(t, a, 0, 8), model{{0, 8}, {1, 0}})
}

// P4.1: puts, drops, refusals and splits as they come, many of them, held against a list.
func TestManyMixed(t *testing.T) {
	for _, keys := range []int{3, 40, 700, 3000} {
		mix, x, m := mixer(keys), New[int](), model(nil)
		for step := range 6000 {
			k := uint64(mix.below(keys)) * 0x9E3779B97F4A7C15 // spread over all keys
			_, has := m.search(k)
			grow := step/1500%2 == 0 // the tree grows for a while, then shrinks
			switch y, e := change(x, k, step, grow == (mix.below(4) > 0)); {
			case e == api.OK && y.put:
				x, m = y.x, m.with(k, step)
			case e == api.OK:
				x, m = y.x, m.without(k)
			case e == api.ErrFull && y.put && !has && len(m) == api.MaxSize && y.x == nil:
			case e == api.ErrKey && !y.put && !has && y.x == nil:
			default:
				t.Fatalf("step %d: %v, with %d keys", step, e, len(m))
			}
			if x.Len() != len(m) {
				t.Fatalf("step %d: %d keys, of %d", step, x.Len(), len(m))
			}
			wantAt(t, "mixed", x, m, mix.below(len(m)+3)-1)
			if step%50 == 0 {
				wantAround(t, "mixed", x, m, k+uint64(mix.below(3))-1)
			}
		}
		wantAll(t, "mixed", x, m)
	}
}

// changed is what a put or a drop made.
type changed struct {
	x   *Tree[int]
	put bool
}

// change puts or drops a key.
func change(x *Tree[int], k uint64, v int, put bool) (changed, api.Errno) {
	if put {
		y, e := x.Put(k, v)
		return changed{y, true}, e
	}
	y, e := x.Drop(k)
	return changed{y, false}, e
}

// P4.1: the parts of a split, put and dropped and split again, are trees as any other.
func TestSplitGoesOn(t *testing.T) {
	x, m := New[int](), model(nil)
	for i := range 200 {
		k := uint64(i * 37 % 200 * 10)
		x, m = mustPut(t, x, k, i), m.with(k, i)
	}
	for k := uint64(0); k <= 2000; k += 5 {
		i, has := m.search(k)
		a, b := x.Split(k)
		ma, mb := m[:i], m[i:]
		wantPairs(t, "put into below", mustPut(t, a, k, -1), ma.with(k, -1))
		wantPairs(t, "put into the others", mustPut(t, b, k, -1), mb.with(k, -1))
		if has {
			wantPairs(t, "dropped from the others", mustDrop(t, b, k), mb.without(k))
		}
		if y, e := a.Drop(k); y != nil || e != api.ErrKey {
			t.Fatalf("below %d: Drop: %v, %v", k, y, e)
		}
		j := len(ma) / 2
		if p, is := a.At(j); is {
			c, d := a.Split(p.Key)
			wantPairs(t, "split again, below", c, ma[:j])
			wantPairs(t, "split again, the others", d, ma[j:])
		}
	}
}

// P4.1: values of all kinds, at nothing the zero value of each.
func TestKindsOfValues(t *testing.T) {
	type both struct {
		s string
		n [2]int
	}
	ofKind(t, "text", "")
	ofKind(t, "struct", both{"x", [2]int{1, 2}})
	ofKind(t, "pair", Pair[bool]{3, true})
	ofKind(t, "pointer", &both{})
	ofKind[any](t, "any", 5)
	ofKind[error](t, "no error", nil)
	ofKind(t, "empty struct", struct{}{})
	x, e := New[[]int]().Put(1, []int{4, 5})
	v, is := x.Get(1)
	if w, has := x.Get(2); e != api.OK || !is || fmt.Sprint(v) != "[4 5]" || w != nil || has {
		t.Errorf("list: %v, %v, %v", v, w, e)
	}
}

// ofKind puts a value, asks for it, and for one that is not there.
func ofKind[V comparable](t *testing.T, name string, v V) {
	t.Helper()
	var zero V
	x, e := New[V]().Put(8, v)
	got, is := x.Get(8)
	floor, isFloor := x.Floor(9)
	ceil, isCeil := x.Ceil(7)
	at, isAt := x.At(0)
	want := Pair[V]{8, v}
	if e != api.OK || got != v || !is || floor != want || !isFloor || ceil != want || !isCeil || at != want || !isAt || x.Pairs()[0] != want {
		t.Errorf("%s: %v, %v, %v, %v, %v", name, e, got, floor, ceil, at)
	}
	got, is = x.Get(9)
	floor, isFloor = x.Floor(7)
	ceil, isCeil = x.Ceil(9)
	at, isAt = x.At(1)
	none := Pair[V]{}
	if got != zero || is || floor != none || isFloor || ceil != none || isCeil || at != none || isAt {
		t.Errorf("%s, not there: %v, %v, %v, %v", name, got, floor, ceil, at)
	}
}
