package tree

import "iter"

// node is a pair, with lesser keys to the left and greater ones to the right; nil has no pair.
// The heights of its two parts differ by at most 1, and no node changes once it is made.
type node[V any] struct {
	pair         Pair[V]
	left, right  *node[V]
	size, height int
}

// count is how many pairs there are.
func (n *node[V]) count() int {
	if n == nil {
		return 0
	}
	return n.size
}

// high is how high it is.
func (n *node[V]) high() int {
	if n == nil {
		return 0
	}
	return n.height
}

// told is the node's own pair, if there is a node.
func (n *node[V]) told() (Pair[V], bool) {
	if n == nil {
		return Pair[V]{}, false
	}
	return n.pair, true
}

// find is the node at a key.
func (n *node[V]) find(k uint64) *node[V] {
	for n != nil && n.pair.Key != k {
		if k < n.pair.Key {
			n = n.left
		} else {
			n = n.right
		}
	}
	return n
}

// floor is the node with the greatest key not above.
func (n *node[V]) floor(k uint64) *node[V] {
	var best *node[V]
	for n != nil {
		if n.pair.Key <= k {
			best, n = n, n.right
		} else {
			n = n.left
		}
	}
	return best
}

// ceil is the node with the least key not below.
func (n *node[V]) ceil(k uint64) *node[V] {
	var best *node[V]
	for n != nil {
		if n.pair.Key >= k {
			best, n = n, n.left
		} else {
			n = n.right
		}
	}
	return best
}

// place is the i-th node.
func (n *node[V]) place(i int) *node[V] {
	for n != nil && i != n.left.count() {
		if i < n.left.count() {
			n = n.left
		} else {
			i -= n.left.count() + 1
			n = n.right
		}
	}
	return n
}

// rising yields all pairs, by rising keys.
func (n *node[V]) rising() iter.Seq[Pair[V]] {
	return func(yield func(Pair[V]) bool) { n.walk(yield) }
}

// walk yields all pairs; it tells whether more are wanted, so that those above it stop with it.
func (n *node[V]) walk(yield func(Pair[V]) bool) bool {
	return n == nil || n.left.walk(yield) && yield(n.pair) && n.right.walk(yield)
}

// cut is the part below a key, the node at it, if there is one, and the part above.
func (n *node[V]) cut(k uint64) (below, at, above *node[V]) {
	switch {
	case n == nil:
		return nil, nil, nil
	case k < n.pair.Key:
		below, at, above = n.left.cut(k)
		return below, at, join(above, n.pair, n.right)
	case k > n.pair.Key:
		below, at, above = n.right.cut(k)
		return join(n.left, n.pair, below), at, above
	}
	return n.left, n, n.right
}
