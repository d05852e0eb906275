package bits

import (
	"math"
	"slices"
	"testing"

	"waystone/api"
)

// sizes are those that the words' ends, and the limits, tell apart.
func sizes() []int { return []int{0, 1, 2, 63, 64, 65, 127, 128, 129, 1023, 1024} }

// model is what a set should have: of each number below its size whether it is among them.
type model []bool

// modelOf is the model of numbers, in any order.
func modelOf(size int, l ...int) model {
	m := make(model, size)
	for _, i := range l {
		m[i] = true
	}
	return m
}

// list are the model's numbers, rising.
func (m model) list() []int {
	l := []int{}
	for i, is := range m {
		if is {
			l = append(l, i)
		}
	}
	return l
}

// with is the model with the numbers from i on, below k.
func (m model) with(i, k int) model {
	m = slices.Clone(m)
	for ; i < k; i++ {
		m[i] = true
	}
	return m
}

// joined is the model of what becomes of two of one size, number by number.
func (m model) joined(o model, become func(a, b bool) bool) model {
	j := make(model, len(m))
	for i := range m {
		j[i] = become(m[i], o[i])
	}
	return j
}

func (m model) and(o model) model {
	return m.joined(o, func(a, b bool) bool { return a && b })
}

func (m model) or(o model) model {
	return m.joined(o, func(a, b bool) bool { return a || b })
}

func (m model) minus(o model) model {
	return m.joined(o, func(a, b bool) bool { return a && !b })
}

func (m model) not() model {
	return m.joined(m, func(a, _ bool) bool { return !a })
}

// far are numbers that no set may have, but for those that are as great as its size, and near it.
func far() []int {
	return []int{math.MinInt, math.MinInt + 1, -1 << 32, -1025, -1024, -65, -64, -63, -2, -1, 1024, 1025, 1087, 1088, 1 << 32, math.MaxInt - 63, math.MaxInt - 1, math.MaxInt}
}

// wantAll asks every call that reads for what the model has.
func wantAll(t *testing.T, what string, s *Set, m model) {
	t.Helper()
	l := m.list()
	if s.Size() != len(m) || s.Len() != len(l) || !slices.Equal(s.List(), l) {
		t.Fatalf("%s: size %d, len %d, %v; want size %d, len %d, %v", what, s.Size(), s.Len(), s.List(), len(m), len(l), l)
	}
	for i := -70; i < len(m)+70; i++ {
		wantAt(t, what, s, m, i)
	}
	for _, i := range far() {
		wantAt(t, what, s, m, i)
	}
}

// wantAt asks Has and Next at a number, whatever it is.
func wantAt(t *testing.T, what string, s *Set, m model, i int) {
	t.Helper()
	has := i >= 0 && i < len(m) && m[i]
	if got := s.Has(i); got != has {
		t.Fatalf("%s: Has(%d): %v; want %v, of %v", what, i, got, has, m.list())
	}
	next := max(i, 0)
	for next < len(m) && !m[next] {
		next++
	}
	is := next < len(m)
	if !is {
		next = 0
	}
	if got, some := s.Next(i); got != next || some != is {
		t.Fatalf("%s: Next(%d): %d, %v; want %d, %v, of %v", what, i, got, some, next, is, m.list())
	}
}

// mustOf is the set of numbers that may be.
func mustOf(t *testing.T, size int, l ...int) *Set {
	t.Helper()
	s, e := Of(size, l)
	if e != api.OK || s == nil {
		t.Fatalf("Of(%d, %v): %v, %v", size, l, s, e)
	}
	return s
}

// setOf is the set of a model.
func setOf(t *testing.T, m model) *Set {
	t.Helper()
	return mustOf(t, len(m), m.list()...)
}

// mustWith is the set with numbers that may be.
func mustWith(t *testing.T, s *Set, i, k int) *Set {
	t.Helper()
	u, e := s.With(i, k)
	if e != api.OK || u == nil {
		t.Fatalf("With(%d, %d), of size %d: %v, %v", i, k, s.Size(), u, e)
	}
	return u
}

// good takes what a call answers that is to be well.
func good(t *testing.T) func(*Set, api.Errno) *Set {
	return func(s *Set, e api.Errno) *Set {
		t.Helper()
		if e != api.OK || s == nil {
			t.Fatalf("%v, %v", s, e)
		}
		return s
	}
}

// wantRefused asks for ErrBits, beside which there is no set.
func wantRefused(t *testing.T, what string, s *Set, e api.Errno) {
	t.Helper()
	if s != nil || e != api.ErrBits {
		t.Fatalf("%s: %v, %v; want %v", what, s, e, api.ErrBits)
	}
}

// mixer draws numbers, the same ones each time.
type mixer uint64

// below is a number below n.
func (x *mixer) below(n int) int {
	*x = *x*6364136223846793005 + 1442695040888963407
	return int(uint64(*x) >> 33 % uint64(n))
}

// model is one of that size, of which about one number of so many is had.
func (x *mixer) model(size, one int) model {
	m := make(model, size)
	for i := range m {
		m[i] = x.below(one) == 0
	}
	return m
}

// some are models of that size: none, all, the first, the last, those about the words' ends, every other one, and drawn ones.
func some(size int) []model {
	m := []model{make(model, size), make(model, size).not()}
	for _, i := range []int{0, 1, 62, 63, 64, 65, 127, 128, size / 2, size - 2, size - 1} {
		if i >= 0 && i < size {
			m = append(m, modelOf(size, i), modelOf(size, i).not())
		}
	}
	other := make(model, size)
	for i := range other {
		other[i] = i%2 == 1
	}
	mix := mixer(size)
	return append(m, other, other.not(), mix.model(size, 2), mix.model(size, 5), mix.model(size, 40))
}

// small are all models of that size.
func small(size int) []model {
	all := []model{}
	for x := range 1 << size {
		m := make(model, size)
		for i := range m {
			m[i] = x>>i&1 == 1
		}
		all = append(all, m)
	}
	return all
}
