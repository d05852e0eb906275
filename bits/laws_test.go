package bits

import (
	"slices"
	"testing"
)

// laws are P6.2's, of three sets of one size.
type laws struct {
	t             *testing.T
	a, b, c       *Set
	nothing, full *Set
}

func (l laws) and(x, y *Set) *Set   { l.t.Helper(); return good(l.t)(x.And(y)) }
func (l laws) or(x, y *Set) *Set    { l.t.Helper(); return good(l.t)(x.Or(y)) }
func (l laws) minus(x, y *Set) *Set { l.t.Helper(); return good(l.t)(x.Minus(y)) }

// same asks for two sets of one size that have the same numbers.
func (l laws) same(name string, x, y *Set) {
	l.t.Helper()
	if x.Size() != y.Size() || x.Len() != y.Len() || !slices.Equal(x.List(), y.List()) {
		l.t.Fatalf("%s: %v is not %v, of %v, %v, %v", name, x.List(), y.List(), l.a.List(), l.b.List(), l.c.List())
	}
}

// ofOne are those of one set.
func (l laws) ofOne() {
	l.t.Helper()
	a := l.a
	l.same("a and a", l.and(a, a), a)
	l.same("a or a", l.or(a, a), a)
	l.same("a minus a", l.minus(a, a), l.nothing)
	l.same("not not a", a.Not().Not(), a)
	l.same("a and not a", l.and(a, a.Not()), l.nothing)
	l.same("a or not a", l.or(a, a.Not()), l.full)
	l.same("a and nothing", l.and(a, l.nothing), l.nothing)
	l.same("a or nothing", l.or(a, l.nothing), a)
	l.same("a minus nothing", l.minus(a, l.nothing), a)
	l.same("nothing minus a", l.minus(l.nothing, a), l.nothing)
	l.same("a and all", l.and(a, l.full), a)
	l.same("a or all", l.or(a, l.full), l.full)
	l.same("a minus all", l.minus(a, l.full), l.nothing)
	l.same("all minus a", l.minus(l.full, a), a.Not())
	if a.Len()+a.Not().Len() != a.Size() {
		l.t.Fatalf("%d and %d are not %d", a.Len(), a.Not().Len(), a.Size())
	}
}

// ofTwo are those of two sets.
func (l laws) ofTwo() {
	l.t.Helper()
	a, b := l.a, l.b
	l.same("and, the other way", l.and(a, b), l.and(b, a))
	l.same("or, the other way", l.or(a, b), l.or(b, a))
	l.same("a and (a or b)", l.and(a, l.or(a, b)), a)
	l.same("a or (a and b)", l.or(a, l.and(a, b)), a)
	l.same("not (a and b)", l.and(a, b).Not(), l.or(a.Not(), b.Not()))
	l.same("not (a or b)", l.or(a, b).Not(), l.and(a.Not(), b.Not()))
	l.same("a minus b", l.minus(a, b), l.and(a, b.Not()))
	l.same("not (a minus b)", l.minus(a, b).Not(), l.or(a.Not(), b))
	l.same("a minus (a minus b)", l.minus(a, l.minus(a, b)), l.and(a, b))
	l.same("(a minus b) or (a and b)", l.or(l.minus(a, b), l.and(a, b)), a)
	l.same("(a minus b) and b", l.and(l.minus(a, b), b), l.nothing)
	if l.or(a, b).Len()+l.and(a, b).Len() != a.Len()+b.Len() {
		l.t.Fatalf("the lengths of %v and %v", a.List(), b.List())
	}
}

// ofThree are those of three sets.
func (l laws) ofThree() {
	l.t.Helper()
	a, b, c := l.a, l.b, l.c
	l.same("a and b and c", l.and(l.and(a, b), c), l.and(a, l.and(b, c)))
	l.same("a or b or c", l.or(l.or(a, b), c), l.or(a, l.or(b, c)))
	l.same("a and (b or c)", l.and(a, l.or(b, c)), l.or(l.and(a, b), l.and(a, c)))
	l.same("a or (b and c)", l.or(a, l.and(b, c)), l.and(l.or(a, b), l.or(a, c)))
	l.same("a minus b minus c", l.minus(l.minus(a, b), c), l.minus(a, l.or(b, c)))
	l.same("a minus (b minus c)", l.minus(a, l.minus(b, c)), l.or(l.minus(a, b), l.and(a, c)))
	l.same("a minus (b and c)", l.minus(a, l.and(b, c)), l.or(l.minus(a, b), l.minus(a, c)))
	l.same("(a or b) minus c", l.minus(l.or(a, b), c), l.or(l.minus(a, c), l.minus(b, c)))
}

// hold asks for all of them.
func (l laws) hold() {
	l.t.Helper()
	l.nothing = good(l.t)(New(l.a.Size()))
	l.full = mustWith(l.t, l.nothing, 0, l.nothing.Size())
	l.ofOne()
	l.ofTwo()
	l.ofThree()
}

// P6.2: the laws of sets, of all small sets.
func TestLawsOfSmallSets(t *testing.T) {
	for size := range 4 {
		all := small(size)
		for _, a := range all {
			for _, b := range all {
				for _, c := range all {
					laws{t: t, a: setOf(t, a), b: setOf(t, b), c: setOf(t, c)}.hold()
				}
			}
		}
	}
}

// P6.2: the laws of sets, of drawn greater ones, and of nil.
func TestLawsOfDrawnSets(t *testing.T) {
	laws{t: t}.hold()
	mix := mixer(11)
	for _, size := range append(sizes(), 300, 700) {
		for range 12 {
			m := []model{mix.model(size, 1+mix.below(9)), mix.model(size, 2), mix.model(size, 1+mix.below(60)).not()}
			laws{t: t, a: setOf(t, m[0]), b: setOf(t, m[1]), c: setOf(t, m[2])}.hold()
		}
	}
}
