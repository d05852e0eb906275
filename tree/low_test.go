package tree

import (
	"math/bits"
	"slices"
	"testing"

	"waystone/api"
)

// limit is how high a tree of so many keys may be, as T3 says.
func limit(keys int) int {
	return 3*bits.Len(uint(keys+1))/2 + 1
}

// P4.3: the limit that the tests hold trees against is the chapter's own.
func TestLimit(t *testing.T) {
	for keys, want := range map[int]int{0: 2, 1: 4, 2: 4, 3: 5, 6: 5, 7: 7, 200: 13, 254: 13, 255: 14, 300: 14, 1022: 16, 1023: 17, 1024: 17} {
		if limit(keys) != want {
			t.Errorf("%d keys: %d; want %d", keys, limit(keys), want)
		}
	}
}

// counted goes through all nodes: how many pairs there are, how high it really is, whatever the nodes tell, and by how much two parts of one node differ at most.
func counted(n *node[int]) (size, height, lean int) {
	if n == nil {
		return 0, 0, 0
	}
	a, h, l := counted(n.left)
	b, g, r := counted(n.right)
	return a + 1 + b, max(h, g) + 1, max(l, r, h-g, g-h)
}

// wantLow asks for a tree no higher than it may be, whose Len and Height are what its nodes are.
// No row of puts and drops shows that all others keep to the limit; that no node leans by more than 1 does.
func wantLow(t *testing.T, what string, x *Tree[int]) {
	t.Helper()
	size, height, lean := counted(x.top())
	if x.Len() != size || x.Height() != height {
		t.Fatalf("%s: Len %d, Height %d; really %d, %d", what, x.Len(), x.Height(), size, height)
	}
	if height > limit(size) || lean > 1 {
		t.Fatalf("%s: %d keys, high %d, leaning by %d; at most %d, and 1", what, size, height, lean, limit(size))
	}
}

// P4.3: a tree with no node that leans by more than 1 keeps to the limit: of each height, the one with the fewest keys does.
func TestFewestKeys(t *testing.T) {
	for fewest, next, height := 0, 1, 0; fewest <= api.MaxSize; height++ {
		for keys := fewest; keys <= api.MaxSize; keys++ {
			if height > limit(keys) {
				t.Errorf("%d keys may be %d high; at most %d", keys, height, limit(keys))
			}
		}
		fewest, next = next, fewest+1+next
	}
}

// rows are the keys below n: rising, falling, from both ends, from the middle on, and mixed.
func rows(n int) map[string][]uint64 {
	rising := make([]uint64, n)
	var ends, middle []uint64
	for i := range rising {
		rising[i] = uint64(i)
		if i%2 == 0 {
			ends = append(ends, uint64(i/2))
		} else {
			ends = append(ends, uint64(n-1-i/2))
		}
	}
	falling, mixed := slices.Clone(rising), slices.Clone(rising)
	slices.Reverse(falling)
	middle = slices.Clone(ends)
	slices.Reverse(middle)
	mix := mixer(n)
	for i := range mixed {
		j := i + mix.below(n-i)
		mixed[i], mixed[j] = mixed[j], mixed[i]
	}
	return map[string][]uint64{"rising": rising, "falling": falling, "ends": ends, "middle": middle, "mixed": mixed}
}

// P4.3: behind each of many puts, in each order, and each of as many drops, in each order.
func TestLowPutAndDropped(t *testing.T) {
	all := rows(api.MaxSize)
	for name, keys := range all {
		full := New[int]()
		for i, k := range keys {
			full = mustPut(t, full, k, i)
			wantLow(t, name, full)
		}
		if full.Len() != api.MaxSize {
			t.Fatalf("%s: %d keys", name, full.Len())
		}
		for name2, keys := range all {
			x := full
			for _, k := range keys {
				x = mustDrop(t, x, k)
				wantLow(t, name+", dropped "+name2, x)
			}
			if x.Len() != 0 || x.Height() != 0 {
				t.Errorf("%s, dropped %s: %d keys, high %d", name, name2, x.Len(), x.Height())
			}
		}
	}
}

// P4.3: both parts behind a split, at each key and behind the last one.
func TestLowSplit(t *testing.T) {
	for name, keys := range rows(600) {
		x, _ := plant(t, keys...)
		for k := range uint64(601) {
			a, b := x.Split(k)
			if a.Len() != int(k) || b.Len() != 600-int(k) {
				t.Fatalf("%s: Split(%d): %d, %d", name, k, a.Len(), b.Len())
			}
			wantLow(t, name+", below", a)
			wantLow(t, name+", the others", b)
		}
		wantLow(t, name+", as it was", x)
	}
}

// P4.3: parts split again and again, from either side, with keys put between.
func TestLowSplitAgain(t *testing.T) {
	for name, keys := range rows(api.MaxSize) {
		x, _ := plant(t, keys...)
		for i := range uint64(40) {
			p, _ := x.At(x.Len() / 8)
			q, _ := x.At(x.Len() - 1 - x.Len()/8)
			_, x = x.Split(p.Key + i%2)
			wantLow(t, name+", the others", x)
			x, _ = x.Split(q.Key + i/2%2)
			wantLow(t, name+", below", x)
			x = mustPut(t, mustPut(t, x, 1<<40+i, 0), q.Key, 0)
			wantLow(t, name+", put", x)
		}
	}
}

// lopsided drops, over and over, a key whose going makes the tree no lower, as long as there is one: so it comes to be as high, for its keys, as drops can make it.
func lopsided(t *testing.T, x *Tree[int]) *Tree[int] {
	t.Helper()
	for again := true; again; {
		again = false
		for _, p := range x.Pairs() {
			if y := mustDrop(t, x, p.Key); y.Height() == x.Height() {
				x, again = y, true
				wantLow(t, "lopsided", x)
			}
		}
	}
	return x
}

// P4.3: trees as lopsided as they come, and what is put into them, dropped and split off.
func TestLowLopsided(t *testing.T) {
	for name, keys := range rows(500) {
		x, _ := plant(t, keys...)
		x = lopsided(t, x)
		for i, p := range x.Pairs() {
			wantLow(t, name+", put", mustPut(t, x, 1000+p.Key, 0))
			y := mustDrop(t, x, p.Key)
			wantLow(t, name+", dropped", y)
			a, b := x.Split(p.Key)
			if a.Len() != i || b.Len() != x.Len()-i {
				t.Fatalf("%s: Split(%d): %d, %d", name, p.Key, a.Len(), b.Len())
			}
			wantLow(t, name+", below", a)
			wantLow(t, name+", the others", b)
			wantLow(t, name+", below and greater", mustPut(t, a, 2000, 0))
			wantLow(t, name+", others and lesser", mustPut(t, b, p.Key, 0))
		}
	}
}

// P4.3: keys that wander up, the least one dropped for each that comes, and down again.
func TestLowWandering(t *testing.T) {
	x, _ := plant(t, rows(300)["mixed"]...)
	for k := uint64(300); k < 3000; k++ {
		x = mustDrop(t, mustPut(t, x, k, 0), k-300)
		wantLow(t, "up", x)
	}
	for k := uint64(2699); k > 0; k-- {
		x = mustDrop(t, mustPut(t, x, k, 0), k+300)
		wantLow(t, "down", x)
	}
	if p, is := x.At(0); x.Len() != 300 || p.Key != 1 || !is {
		t.Errorf("%d keys, from %v on", x.Len(), p)
	}
}
