package tree

import (
	"fmt"
	"slices"
	"testing"

	"waystone/api"
)

// shape is all that a node and those below it hold, written out.
func shape(n *node[int]) string {
	if n == nil {
		return "."
	}
	return fmt.Sprintf("(%s %d=%d #%d ^%d %s)", shape(n.left), n.pair.Key, n.pair.Value, n.size, n.height, shape(n.right))
}

// version is a tree as it was when it came to be.
type version struct {
	x     *Tree[int]
	m     model
	shape string
}

// kept is a version of a tree.
func kept(x *Tree[int]) version {
	return version{x, x.Pairs(), shape(x.top())}
}

// wantKept asks a version for all that it had.
func wantKept(t *testing.T, what string, v version) {
	t.Helper()
	wantPairs(t, what, v.x, v.m)
	if s := shape(v.x.top()); s != v.shape {
		t.Fatalf("%s: %s; it was %s", what, s, v.shape)
	}
}

// P4.2: every call, of trees of all sizes, leaves them as they were, with what it was answered lasting too.
func TestEachCallLeavesIt(t *testing.T) {
	for n := range 40 {
		x := New[int]()
		for i := range n {
			x = mustPut(t, x, uint64(i*17%n*3), i)
		}
		all := []version{kept(x)}
		for k := range uint64(3*n + 3) {
			all = append(all, kept(mustPut(t, x, k, -1)))
			if y, e := x.Drop(k); e == api.OK {
				all = append(all, kept(y))
			}
			a, b := x.Split(k)
			all = append(all, kept(a), kept(b), kept(mustPut(t, a, k, -2)), kept(mustPut(t, b, k, -3)))
			x.Get(k)
			x.Floor(k)
			x.Ceil(k)
			x.At(int(k))
		}
		for _, v := range all {
			wantKept(t, "left", v)
		}
	}
}

// P4.2: many trees made one of the other, each of which reads to the end as it did at first.
func TestAllVersionsLast(t *testing.T) {
	great, _ := plant(t, rows(250)["mixed"]...)
	mix, all := mixer(4), []version{kept(nil), kept(New[int]()), kept(great)}
	for step := range 1500 {
		from := all[mix.below(len(all))]
		if step%3 > 0 {
			from = all[len(all)-1] // so that much is made of each
		}
		k := uint64(mix.below(300))
		switch mix.below(30) {
		case 0, 1, 2, 3, 4, 5, 6, 7, 8, 9:
			if y, e := from.x.Drop(k); e == api.OK {
				all = append(all, kept(y))
			}
		case 10:
			a, b := from.x.Split(k)
			all = append(all, kept(a), kept(b))
		default:
			all = append(all, kept(mustPut(t, from.x, k, step)))
		}
		wantKept(t, "just left", from)
	}
	for _, v := range all {
		wantKept(t, "at the end", v)
	}
	for _, v := range all[:50] {
		wantAll(t, "at the end", v.x, v.m)
	}
}

// P4.2: two made of the same tree know nothing of each other.
func TestSiblings(t *testing.T) {
	x, m := plant(t, 50, 20, 80, 10, 30, 70, 90)
	a, b := mustPut(t, x, 60, 1), mustPut(t, x, 60, 2)
	c, d := mustDrop(t, x, 20), mustDrop(t, x, 90)
	e, f := x.Split(50)
	g, h := mustPut(t, e, 99, 3), mustPut(t, f, 1, 4)
	wantAll(t, "the first put", a, m.with(60, 1))
	wantAll(t, "the second put", b, m.with(60, 2))
	wantAll(t, "the first dropped", c, m.without(20))
	wantAll(t, "the second dropped", d, m.without(90))
	wantAll(t, "below", e, m[:3])
	wantAll(t, "the others", f, m[3:])
	wantAll(t, "below, and one", g, m[:3].with(99, 3))
	wantAll(t, "the others, and one", h, m[3:].with(1, 4))
	wantAll(t, "as it was", x, m)
}

// P4.2, rule 3: what is refused leaves a tree as it was, and answers none.
func TestRefusedLeavesIt(t *testing.T) {
	x, _ := plant(t, rows(api.MaxSize)["mixed"]...)
	was := kept(x)
	for _, k := range []uint64{api.MaxSize, 1 << 50, greatest} {
		if y, e := x.Put(k, 1); y != nil || e != api.ErrFull {
			t.Errorf("Put(%d): %v, %v", k, y, e)
		}
		if y, e := x.Drop(k); y != nil || e != api.ErrKey {
			t.Errorf("Drop(%d): %v, %v", k, y, e)
		}
	}
	wantKept(t, "refused", was)
}

// P4.2, rule 4: the list that Pairs answers is new memory each time: what is written into it, or put behind it, is nobody else's.
func TestPairsAreNew(t *testing.T) {
	for n := range 20 {
		x, m := plant(t, rows(n)["mixed"]...)
		a, b := x.Pairs(), x.Pairs()
		for i := range a {
			a[i] = Pair[int]{1 << 40, -9}
		}
		a = append(a, Pair[int]{2, 2}, Pair[int]{1, 1})
		if !slices.Equal(b, m) {
			t.Errorf("the other list: %v", b)
		}
		clear(a)
		wantAll(t, "written into", x, m)
		_ = append(x.Pairs(), Pair[int]{9, 9})
		y := mustPut(t, x, 100, 1)
		wantAll(t, "made of it", y, m.with(100, 1))
		clear(y.Pairs())
		wantAll(t, "made of it", y, m.with(100, 1))
		wantAll(t, "as it was", x, m)
	}
}

// P4.2: many may read a tree, and make others of it, at the same time.
func TestReadTogether(t *testing.T) {
	x, m := plant(t, rows(200)["mixed"]...)
	done := make(chan bool)
	for i := range 8 {
		go func() {
			fine := true
			for k := range uint64(200) {
				y, e := x.Put(k, -int(i))
				z, f := x.Drop(k)
				a, b := x.Split(k)
				v, is := y.Get(k)
				fine = fine && e == api.OK && f == api.OK && v == -int(i) && is && z.Len() == 199 && a.Len() == int(k) && b.Len() == 200-int(k)
			}
			done <- fine && slices.Equal(x.Pairs(), m)
		}()
	}
	for range 8 {
		if !<-done {
			t.Error("read together: not as alone")
		}
	}
}

// The ways of layer 4: pairs are yielded rising, and no more of them once no more are wanted.
func TestRisingStops(t *testing.T) {
	x, m := plant(t, rows(30)["mixed"]...)
	for want := range 31 {
		var got model
		for p := range x.top().rising() {
			if len(got) == want {
				break
			}
			got = append(got, p)
		}
		if !slices.Equal(got, m[:want]) {
			t.Errorf("%d: %v", want, got)
		}
	}
}
