package bits

import (
	"slices"
	"sync"
	"testing"

	"waystone/api"
)

// version is a set, and what it had when it came to be.
type version struct {
	s *Set
	m model
}

// made are sets that calls make of two of one size.
func (v version) made(t *testing.T, o version, i, k int) []version {
	t.Helper()
	return []version{
		{mustWith(t, v.s, i, k), v.m.with(i, k)},
		{good(t)(v.s.And(o.s)), v.m.and(o.m)},
		{good(t)(v.s.Or(o.s)), v.m.or(o.m)},
		{good(t)(v.s.Minus(o.s)), v.m.minus(o.m)},
		{v.s.Not(), v.m.not()},
	}
}

// A set never changes: whatever was made of it, it reads as it did before, and so does what was made.
func TestAllLast(t *testing.T) {
	for _, size := range []int{0, 1, 64, 65, 200} {
		mix := mixer(size + 1)
		first := mix.model(size, 3)
		all := []version{{setOf(t, first), first}, {good(t)(New(size)), make(model, size)}}
		for range 60 {
			v, o := all[mix.below(len(all))], all[mix.below(len(all))]
			i, k := mix.below(size+1), mix.below(size+1)
			all = append(all, v.made(t, o, min(i, k), max(i, k))...)
			wantAll(t, "just left", v.s, v.m)
			wantAll(t, "just left, the other one", o.s, o.m)
		}
		for _, v := range all {
			wantAll(t, "at the end", v.s, v.m)
		}
	}
}

// Rule 3: a call that is refused leaves both sets as they were.
func TestRefusedLeaves(t *testing.T) {
	m, n := modelOf(65, 0, 63, 64), modelOf(66, 1, 65)
	s, o := setOf(t, m), setOf(t, n)
	wantNoTwo(t, s, o)
	wantNoTwo(t, o, s)
	for _, x := range [][2]int{{3, 2}, {-1, 5}, {0, 66}} {
		u, e := s.With(x[0], x[1])
		wantRefused(t, "With", u, e)
	}
	wantAll(t, "the one", s, m)
	wantAll(t, "the other one", o, n)
}

// Rule 4: the list that List answers is new memory each time: what is written into it is not seen again, in this set or one made of it.
func TestListIsNew(t *testing.T) {
	for _, size := range []int{1, 64, 65, 1024} {
		for _, m := range some(size) {
			s := setOf(t, m)
			u := mustWith(t, s, 0, 0)
			first, second := s.List(), s.List()
			for i := range first {
				first[i] = -7
			}
			_ = append(first[:0], spoil(cap(first))...)
			if !slices.Equal(second, m.list()) {
				t.Fatalf("the second list: %v; want %v", second, m.list())
			}
			wantAll(t, "its list spoilt", s, m)
			wantAll(t, "made of it", u, m)
		}
	}
}

// spoil is n numbers that no set has.
func spoil(n int) []int {
	return slices.Repeat([]int{-9}, n)
}

// Rule 4: the list that is handed to Of is not kept, nor written into; nor is what lies behind its length looked at.
func TestOfKeepsNothing(t *testing.T) {
	room := []int{70, 3, 99, 3, 5, -1, 1 << 40}
	before := slices.Clone(room)
	s := good(t)(Of(100, room[:4]))
	if !slices.Equal(room, before) {
		t.Fatalf("written into: %v", room)
	}
	want := modelOf(100, 3, 70, 99)
	wantAll(t, "of a part", s, want)
	copy(room, spoil(len(room)))
	wantAll(t, "its list spoilt", s, want)

	room = []int{0, 99, 7, 100, 1}
	before = slices.Clone(room)
	u, e := Of(100, room)
	wantRefused(t, "Of", u, e)
	if !slices.Equal(room, before) {
		t.Fatalf("written into, refused: %v", room)
	}
}

// P2: the same calls have the same answers, however often, and from many at once (a set is only read).
func TestManyReadOne(t *testing.T) {
	m := modelOf(1000, 1, 63, 64, 500, 999)
	s, o := setOf(t, m), setOf(t, m.not())
	var group sync.WaitGroup
	lists := make([][]int, 8)
	for i := range lists {
		group.Go(func() {
			u, _ := s.Or(o)
			u, _ = u.Minus(o.Not().Not())
			u, _ = u.With(10+i, 10+i)
			lists[i] = u.List()
		})
	}
	group.Wait()
	for _, l := range lists {
		if !slices.Equal(l, m.list()) {
			t.Fatalf("%v; want %v", l, m.list())
		}
	}
}

// P1, P6.1, P6.2: a program of calls, drawn by bytes, with a model beside it.
func FuzzBits(f *testing.F) {
	f.Add([]byte{100, 0, 3, 70, 1, 2, 3, 4, 5})
	f.Add([]byte{65, 5, 0, 64, 4, 0, 0, 1, 2, 2, 3, 1, 0, 0, 255, 255})
	f.Add([]byte{0, 0, 0, 0, 4, 4, 4})
	f.Add([]byte{255, 0, 0, 255, 0, 9, 200, 3, 1, 0, 2, 0, 1})
	f.Fuzz(func(t *testing.T, b []byte) {
		if len(b) == 0 || len(b) > 100 {
			return
		}
		size := int(b[0]) * 4
		all := []version{{good(t)(New(size)), make(model, size)}}
		for b = b[1:]; len(b) >= 3; b = b[3:] {
			v, o := all[int(b[1])%len(all)], all[int(b[2])%len(all)]
			i, k := int(b[1])*5-20, int(b[2])*5-20
			if 0 <= i && i <= k && k <= size {
				all = append(all, v.made(t, o, i, k)[b[0]%5])
			} else {
				u, e := v.s.With(i, k)
				wantRefused(t, "With", u, e)
				_, e = Of(size, []int{i, k})
				if wrong := min(i, k) < 0 || max(i, k) >= size; wrong != (e == api.ErrBits) {
					t.Fatalf("Of(%d, %d, %d): %v", size, i, k, e)
				}
			}
		}
		for _, v := range all {
			wantAll(t, "drawn", v.s, v.m)
		}
	})
}
