package tree

// bare is a node of parts whose heights differ by at most 1.
func bare[V any](left *node[V], p Pair[V], right *node[V]) *node[V] {
	return &node[V]{
		pair:   p,
		left:   left,
		right:  right,
		size:   left.count() + 1 + right.count(),
		height: max(left.high(), right.high()) + 1,
	}
}

// join is all of two parts, of whatever heights, and a pair between them; at most 1 higher than the higher part.
// It goes down the higher part till the other one fits in there, which makes that side higher by at most 1.
func join[V any](left *node[V], p Pair[V], right *node[V]) *node[V] {
	switch {
	case left.high() > right.high()+1:
		return level(left.left, left.pair, join(left.right, p, right))
	case right.high() > left.high()+1:
		return level(join(left, p, right.left), right.pair, right.right)
	}
	return bare(left, p, right)
}

// joinTwo is all of two parts, the keys of the second one being greater.
func joinTwo[V any](left, right *node[V]) *node[V] {
	least, is := right.place(0).told()
	if !is {
		return left
	}
	_, _, rest := right.cut(least.Key)
	return join(left, least, rest)
}

// level is all of two parts, whose heights differ by at most 2, and a pair between them.
func level[V any](left *node[V], p Pair[V], right *node[V]) *node[V] {
	switch {
	case left.high() > right.high()+1:
		return turnRight(left, p, right)
	case right.high() > left.high()+1:
		return turnLeft(left, p, right)
	}
	return bare(left, p, right)
}

// turnRight takes from the left part, which is higher by 2.
// Its inner part, if that is the higher one, is parted, for whole it would be too high on the other side too.
func turnRight[V any](left *node[V], p Pair[V], right *node[V]) *node[V] {
	inner := left.right
	if inner.high() > left.left.high() {
		return bare(bare(left.left, left.pair, inner.left), inner.pair, bare(inner.right, p, right))
	}
	return bare(left.left, left.pair, bare(inner, p, right))
}

// turnLeft is as turnRight, from the right part.
func turnLeft[V any](left *node[V], p Pair[V], right *node[V]) *node[V] {
	inner := right.left
	if inner.high() > right.right.high() {
		return bare(bare(left, p, inner.left), inner.pair, bare(inner.right, right.pair, right.right))
	}
	return bare(bare(left, p, inner), right.pair, right.right)
}
