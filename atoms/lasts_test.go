package atoms

import (
	"slices"
	"testing"

	"waystone/api"
)

// version is a table, and what it had when it came to be.
type version struct {
	x *Table
	m model
}

// A table never changes: every call, of tables of several sizes, leaves them as they were, with what it was answered lasting too.
func TestEachCallLeavesIt(t *testing.T) {
	ends := among(0, 1, 4, 5, last-1, last)
	for n := range 12 {
		mix := mixer(n)
		m := model(mix.mixed(append(ends, ends...))[:n])
		x := table(t, m...)
		all := []version{{x, m}}
		for _, r := range append(ends, rg(1, 0), rg(last, 4)) {
			if y, e := x.Add(r); e == api.OK {
				all = append(all, version{y, m.with(r)})
			}
			if y, e := x.Drop(r); e == api.OK {
				all = append(all, version{y, m.without(r)})
			}
			x.Len()
			x.Atom(int(r.From % 20))
			x.Of(r.To)
			x.Within(r)
			x.Count(r)
			x.Ranges()
		}
		for _, v := range all {
			wantAll(t, "left", v.x, v.m)
		}
	}
}

// A table never changes: many made one of the other, each of which reads to the end as it did at first.
func TestAllVersionsLast(t *testing.T) {
	mix := mixer(7)
	all := []version{{nil, nil}, {New(), nil}, {table(t, full()["any"][:60]...), full()["any"][:60]}}
	for step := range 700 {
		from := all[mix.below(len(all))]
		if step%3 > 0 {
			from = all[len(all)-1] // so that much is made of each
		}
		if len(from.m) > 0 && mix.below(5) < 2 {
			r := from.m[mix.below(len(from.m))]
			all = append(all, version{mustDrop(t, from.x, r), from.m.without(r)})
		} else {
			a, b := uint32(mix.below(40)), uint32(mix.below(40))
			r := rg(min(a, b), max(a, b))
			all = append(all, version{mustAdd(t, from.x, r), from.m.with(r)})
		}
		wantAll(t, "just left", from.x, from.m)
	}
	for _, v := range all {
		wantAll(t, "at the end", v.x, v.m)
	}
}

// P2: two made of the same table know nothing of each other.
func TestSiblings(t *testing.T) {
	m := model{rg(5, 9), rg(8, last), rg(5, 9)}
	x := table(t, m...)
	a, b := mustAdd(t, x, rg(2, 3)), mustAdd(t, x, rg(2, 6))
	c, d := mustDrop(t, x, rg(5, 9)), mustDrop(t, x, rg(8, last))
	e := mustAdd(t, c, rg(0, 0))
	wantAll(t, "one added", a, m.with(rg(2, 3)))
	wantAll(t, "another one added", b, m.with(rg(2, 6)))
	wantAll(t, "one dropped", c, m.without(rg(5, 9)))
	wantAll(t, "another one dropped", d, m.without(rg(8, last)))
	wantAll(t, "one dropped, one added", e, m.without(rg(5, 9)).with(rg(0, 0)))
	wantAll(t, "as it was", x, m)
}

// A table never changes: many may read it, and make others of it, at the same time.
func TestReadTogether(t *testing.T) {
	m := full()["apart"][:200]
	x := table(t, m...)
	done := make(chan bool)
	for range 8 {
		go func() {
			fine := true
			for _, r := range m {
				y, e := x.Add(r)
				z, f := x.Drop(r)
				fine = fine && e == api.OK && f == api.OK && y.Count(r) == 2 && z.Count(r) == 0 && x.Count(r) == 1 && z.Len() == x.Len()-2
			}
			done <- fine && slices.Equal(x.Ranges(), m) && slices.Equal(atomsOf(x), m.atoms())
		}()
	}
	for range 8 {
		if !<-done {
			t.Error("read together: not as alone")
		}
	}
}

// Rule 4: the list that Ranges answers is new memory each time: what is written into it, or put behind it, is nobody else's.
func TestRangesAreNew(t *testing.T) {
	for n := range 20 {
		m := full()["any"][:n]
		x := table(t, m...)
		one, other := x.Ranges(), x.Ranges()
		whole := one[:cap(one)]
		for i := range whole {
			whole[i] = rg(1234, 5678)
		}
		_ = append(x.Ranges(), rg(9, 9))
		if !slices.Equal(other, m.ranges()) {
			t.Errorf("the other list: %v", other)
		}
		wantAll(t, "written into", x, m)
		y := mustAdd(t, x, rg(3, 4))
		clear(y.Ranges())
		wantAll(t, "made of it", y, m.with(rg(3, 4)))
		wantAll(t, "as it was", x, m)
	}
}
