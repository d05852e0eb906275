package atoms

import (
	"waystone/api"
	"waystone/tree"
)

// counted is what a table keeps count of, each thing at a key of its own.
type counted interface {
	key() uint64
}

// cut is a boundary above 0.
type cut uint32

// key is the address.
func (c cut) key() uint64 {
	return uint64(c)
}

// cutsOf are a range's boundaries, but for 0; behind the last address there is none.
func cutsOf(r api.Range) []cut {
	var l []cut
	if r.From > 0 {
		l = append(l, cut(r.From))
	}
	if r.To < api.MaxAddr {
		l = append(l, cut(r.To+1))
	}
	return l
}

// span is a range.
type span api.Range

// key has From ahead of To, so that keys rise as ranges do.
func (s span) key() uint64 {
	return uint64(s.From)<<32 | uint64(s.To)
}

// spanAt is the range whose key it is.
func spanAt(k uint64) api.Range {
	return api.Range{From: uint32(k >> 32), To: uint32(k)}
}

// often is how often a thing stands.
func often[C counted](counts *tree.Tree[int], c C) int {
	n, _ := counts.Get(c.key())
	return n
}

// recount is the counts with a thing standing so many times more, or, below 0, less. What stands no more is forgotten.
// The tree refuses neither: only what stands is taken from, and maxRanges ranges have fewer boundaries than a tree may have keys.
func recount[C counted](counts *tree.Tree[int], c C, by int) *tree.Tree[int] {
	n := often(counts, c) + by
	if n == 0 {
		counts, _ = counts.Drop(c.key())
	} else {
		counts, _ = counts.Put(c.key(), n)
	}
	return counts
}
