package bits

import (
	"math"
	"slices"
	"testing"

	"waystone/api"
)

// P6.1, B1: a new set is an empty one of its size, whichever may be.
func TestNew(t *testing.T) {
	for size := range api.MaxSize + 1 {
		s, e := New(size)
		if e != api.OK || s == nil || s.Size() != size || s.Len() != 0 || len(s.List()) != 0 {
			t.Fatalf("New(%d): %v, %v", size, s, e)
		}
		if l := s.Not().List(); len(l) != size {
			t.Fatalf("Not of New(%d): %v", size, l)
		}
	}
	for _, size := range sizes() {
		wantAll(t, "new", good(t)(New(size)), make(model, size))
	}
}

// P6.1, B1: a size below 0, or above MaxSize, may not be, whatever the numbers are.
func TestWrongSizes(t *testing.T) {
	if api.MaxSize != 1024 {
		t.Fatal("MaxSize")
	}
	for _, size := range []int{math.MinInt, -1 << 32, -1024, -64, -1, 1025, 1088, 1 << 32, math.MaxInt - 62, math.MaxInt} {
		s, e := New(size)
		wantRefused(t, "New", s, e)
		for _, l := range [][]int{nil, {}, {0}, {-1}, {1024}, {0, 1, 2}, {math.MaxInt}, {math.MinInt}} {
			s, e := Of(size, l)
			wantRefused(t, "Of", s, e)
		}
	}
}

// P6.1, B1: a set of numbers has these, in whatever order and however often they are told.
func TestOf(t *testing.T) {
	s := mustOf(t, 100, 3, 70, 99, 3)
	wantAll(t, "as told", s, modelOf(100, 3, 70, 99))
	for _, l := range [][]int{{99, 70, 3}, {70, 3, 99, 70, 70}, {3, 3, 3, 99, 99, 70}} {
		wantAll(t, "in another order", mustOf(t, 100, l...), modelOf(100, 3, 70, 99))
	}
	for _, size := range sizes() {
		wantAll(t, "nil", good(t)(Of(size, nil)), make(model, size))
		wantAll(t, "no numbers", good(t)(Of(size, []int{})), make(model, size))
		for i := range size {
			if l := mustOf(t, size, i, i).List(); !slices.Equal(l, []int{i}) {
				t.Fatalf("Of(%d, %d): %v", size, i, l)
			}
		}
		for _, m := range some(size) {
			l := m.list()
			wantAll(t, "rising", mustOf(t, size, l...), m)
			slices.Reverse(l)
			wantAll(t, "falling", mustOf(t, size, l...), m)
			wantAll(t, "twice", mustOf(t, size, append(l, m.list()...)...), m)
		}
	}
}

// P6.1, B1: a number below 0, at the size, or above it may not be, wherever it stands.
func TestOfWrongNumbers(t *testing.T) {
	for _, size := range sizes() {
		for _, i := range append(far(), size, size+1, size+63, size+64) {
			if i >= 0 && i < size {
				continue
			}
			s, e := Of(size, []int{i})
			wantRefused(t, "alone", s, e)
			if size > 0 {
				s, e = Of(size, []int{i, 0, size - 1})
				wantRefused(t, "first", s, e)
				s, e = Of(size, []int{0, i, size - 1})
				wantRefused(t, "between", s, e)
				s, e = Of(size, []int{0, size - 1, i})
				wantRefused(t, "last", s, e)
			}
		}
	}
}

// P6.1, B1: With adds the numbers from i on, below k; none, if i is k.
func TestWith(t *testing.T) {
	s := mustOf(t, 100, 3, 70, 99)
	wantAll(t, "some", mustWith(t, s, 68, 72), modelOf(100, 3, 68, 69, 70, 71, 99))
	for _, size := range sizes() {
		for n, m := range some(size) {
			s := setOf(t, m)
			for _, i := range []int{0, 1, 62, 63, 64, 65, 128, size / 2, size - 1, size} {
				for _, k := range []int{0, 1, 63, 64, 65, 127, 128, 129, size - 1, size} {
					if i < 0 || i > k || k > size {
						continue
					}
					u := mustWith(t, s, i, k)
					if want := m.with(i, k); u.Size() != size || !slices.Equal(u.List(), want.list()) {
						t.Fatalf("model %d: With(%d, %d): %v; want %v", n, i, k, u.List(), want.list())
					}
				}
			}
		}
	}
}

// P6.1, B1: every piece of sets of up to three words, added to an empty one.
func TestWithEach(t *testing.T) {
	for _, size := range []int{0, 1, 63, 64, 65, 130} {
		s := good(t)(New(size))
		for k := range size + 1 {
			for i := range k + 1 {
				if l := mustWith(t, s, i, k).List(); !slices.Equal(l, make(model, size).with(i, k).list()) {
					t.Fatalf("size %d: With(%d, %d): %v", size, i, k, l)
				}
			}
		}
	}
}

// P6.1, B1: it must be so that 0 <= i <= k <= the size.
func TestWithWrong(t *testing.T) {
	for _, size := range sizes() {
		for _, m := range []model{make(model, size), make(model, size).not()} {
			s := setOf(t, m)
			ends := append(far(), 0, 1, size/2, size-1, size, size+1, size+64)
			for _, i := range ends {
				for _, k := range ends {
					if 0 <= i && i <= k && k <= size {
						continue
					}
					u, e := s.With(i, k)
					wantRefused(t, "With", u, e)
				}
			}
			wantAll(t, "refused", s, m)
		}
	}
}

// P6.1, B2: Has, Next, Len and List, of sets of every kind, at all numbers.
func TestReads(t *testing.T) {
	for _, size := range sizes() {
		for _, m := range some(size) {
			wantAll(t, "reads", setOf(t, m), m)
		}
	}
	for size := range 8 {
		for _, m := range small(size) {
			wantAll(t, "small", setOf(t, m), m)
		}
	}
}

// P6.1, B2: Next at the places that the chapter tells apart.
func TestNext(t *testing.T) {
	s := mustOf(t, 100, 3, 70, 99)
	for _, x := range []struct {
		i, want int
		is      bool
	}{{math.MinInt, 3, true}, {-5, 3, true}, {0, 3, true}, {3, 3, true}, {4, 70, true}, {63, 70, true}, {64, 70, true}, {70, 70, true}, {71, 99, true}, {99, 99, true}, {100, 0, false}, {127, 0, false}, {128, 0, false}, {math.MaxInt, 0, false}} {
		if got, is := s.Next(x.i); got != x.want || is != x.is {
			t.Errorf("Next(%d): %d, %v; want %d, %v", x.i, got, is, x.want, x.is)
		}
	}
}

// P6.1, B2: And, Or and Minus of two of one size, number by number; of a set with itself too, and with one that has nothing, something and all in common.
func TestOfTwo(t *testing.T) {
	s, o := mustOf(t, 100, 3, 70, 99), mustOf(t, 100, 70, 5)
	wantAll(t, "and", good(t)(s.And(o)), modelOf(100, 70))
	wantAll(t, "or", good(t)(s.Or(o)), modelOf(100, 3, 5, 70, 99))
	wantAll(t, "minus", good(t)(s.Minus(o)), modelOf(100, 3, 99))
	wantAll(t, "minus, the other way", good(t)(o.Minus(s)), modelOf(100, 5))
	for _, size := range []int{0, 1, 63, 64, 65, 1023, 1024} {
		all := some(size)
		for _, m := range all {
			for _, n := range all {
				wantTwo(t, setOf(t, m), setOf(t, n), m, n)
			}
			self := setOf(t, m)
			wantTwo(t, self, self, m, m)
		}
	}
}

// wantTwo asks for what And, Or and Minus make of two.
func wantTwo(t *testing.T, s, o *Set, m, n model) {
	t.Helper()
	for _, x := range []struct {
		name string
		s    *Set
		want model
	}{
		{"and", good(t)(s.And(o)), m.and(n)},
		{"or", good(t)(s.Or(o)), m.or(n)},
		{"minus", good(t)(s.Minus(o)), m.minus(n)},
	} {
		if x.s.Size() != len(m) || !slices.Equal(x.s.List(), x.want.list()) || x.s.Len() != len(x.want.list()) {
			t.Fatalf("%s of %v and %v: %v", x.name, m.list(), n.list(), x.s.List())
		}
	}
}

// P6.1, B2: And, Or and Minus of two sizes, even where both have as many words.
func TestTwoSizes(t *testing.T) {
	for _, a := range sizes() {
		for _, b := range sizes() {
			if a == b {
				continue
			}
			for _, m := range []model{make(model, a), make(model, a).not()} {
				for _, n := range []model{make(model, b), make(model, b).not()} {
					wantNoTwo(t, setOf(t, m), setOf(t, n))
				}
			}
		}
	}
}

// wantNoTwo asks And, Or and Minus to refuse two.
func wantNoTwo(t *testing.T, s, o *Set) {
	t.Helper()
	u, e := s.And(o)
	wantRefused(t, "And", u, e)
	u, e = s.Or(o)
	wantRefused(t, "Or", u, e)
	u, e = s.Minus(o)
	wantRefused(t, "Minus", u, e)
}

// P6.1, B2: Not is of an empty set a full one, and the other way round, and has no number from the size on.
func TestNot(t *testing.T) {
	for _, size := range sizes() {
		for _, m := range some(size) {
			s := setOf(t, m)
			wantAll(t, "not", s.Not(), m.not())
			wantAll(t, "not not", s.Not().Not(), m)
		}
		full := good(t)(New(size)).Not()
		if full.Len() != size || full.Not().Len() != 0 {
			t.Fatalf("size %d: %d, %d", size, full.Len(), full.Not().Len())
		}
		wantAll(t, "all added", mustWith(t, good(t)(New(size)), 0, size), full.model())
	}
}

// model is what a set has, as Has tells it.
func (s *Set) model() model {
	m := make(model, s.Size())
	for i := range m {
		m[i] = s.Has(i)
	}
	return m
}

// P6.1, P1: a nil set is an empty one of the size 0, to every call.
func TestNil(t *testing.T) {
	var none *Set
	empty := good(t)(New(0))
	for _, s := range []*Set{none, empty} {
		wantAll(t, "size 0", s, nil)
		wantAll(t, "not", s.Not(), nil)
		wantAll(t, "with none", mustWith(t, s, 0, 0), nil)
		if s.Not() == nil {
			t.Fatal("Not: nil")
		}
		for _, x := range [][2]int{{0, 1}, {1, 1}, {1, 0}, {-1, 0}, {-1, -1}, {math.MinInt, math.MaxInt}} {
			u, e := s.With(x[0], x[1])
			wantRefused(t, "With", u, e)
		}
		for _, o := range []*Set{none, empty} {
			wantTwo(t, s, o, nil, nil)
		}
		for _, size := range sizes()[1:] {
			for _, m := range []model{make(model, size), make(model, size).not()} {
				wantNoTwo(t, s, setOf(t, m))
				wantNoTwo(t, setOf(t, m), s)
			}
		}
	}
}
