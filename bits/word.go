package bits

import "waystone/api"

// wordBits is how many numbers a word tells of.
const wordBits = 64

// wordsOf is how many words a set of that size has. That a nil set has none keeps all calls from looking into one.
func wordsOf(size int) int {
	return (size + wordBits - 1) / wordBits
}

// made is a set of that size, each word of which is told.
func made(size int, word func(w int) uint64) *Set {
	words := make([]uint64, wordsOf(size))
	for w := range len(words) {
		words[w] = word(w)
	}
	return &Set{size: size, words: words}
}

// ofTwo is the set of what becomes of two sets' words.
func ofTwo(s, o *Set, become func(x, y uint64) uint64) (*Set, api.Errno) {
	if s.Size() != o.Size() {
		return nil, api.ErrBits
	}
	return made(s.Size(), func(w int) uint64 { return become(s.words[w], o.words[w]) }), api.OK
}

// below are the bits of word w that tell of numbers below i.
func below(i, w int) uint64 {
	first := w * wordBits
	switch {
	case i <= first:
		return 0
	case i-first >= wordBits:
		return ^uint64(0)
	}
	return 1<<(i-first) - 1
}
