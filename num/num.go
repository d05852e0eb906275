// Package num is layer 1, a byte encoding of numbers and texts: see shared/doc/01-num.md.
package num

import (
	"math/bits"

	"waystone/api"
)

// lead is the greatest number of one byte; with how many bytes follow, it is the first byte of a greater one.
const lead = 239

// Put puts a number behind.
func Put(b []byte, n uint64) []byte {
	// No room behind the length: the first byte put takes new memory, and what b shares stays.
	b = b[:len(b):len(b)]
	if n <= lead {
		return append(b, byte(n))
	}
	k := width(n)
	b = append(b, byte(lead+k))
	for i := range k {
		b = append(b, byte(n>>(8*(k-1-i))))
	}
	return b
}

// Text puts a text behind.
func Text(b []byte, s string) []byte {
	return append(Put(b, uint64(len(s))), s...)
}

// width is how many bytes a number needs, without the first one that tells it.
func width(n uint64) int {
	return (bits.Len64(n) + 7) / 8
}

// Reader is at a place of bytes.
type Reader struct {
	rest []byte
}

// Open is one of bytes.
func Open(b []byte) *Reader {
	// The caller may write into b later on; what is read must not hang on that.
	return &Reader{rest: append([]byte(nil), b...)}
}

// Number is the next number.
func (r *Reader) Number(most uint64) (uint64, api.Errno) {
	if r == nil {
		return 0, api.ErrArg
	}
	n, rest, ok := first(r.rest)
	if !ok || n > most {
		return 0, api.ErrNum
	}
	r.rest = rest
	return n, api.OK
}

// Text is the next text.
func (r *Reader) Text(most int) (string, api.Errno) {
	if r == nil {
		return "", api.ErrArg
	}
	n, rest, ok := first(r.rest)
	// A most below 0 would be a great one as uint64, so it is asked by itself.
	if !ok || most < 0 || n > uint64(most) || n > uint64(len(rest)) {
		return "", api.ErrNum
	}
	r.rest = rest[n:]
	return string(rest[:n]), api.OK
}

// Left is how many bytes are left.
func (r *Reader) Left() int {
	if r == nil {
		return 0
	}
	return len(r.rest)
}

// first is the number with which bytes begin, and the bytes behind it; false, if they begin with none.
func first(b []byte) (uint64, []byte, bool) {
	if len(b) == 0 {
		return 0, nil, false
	}
	if b[0] <= lead {
		return uint64(b[0]), b[1:], true
	}
	k := int(b[0]) - lead
	if k >= len(b) {
		return 0, nil, false
	}
	n := uint64(0)
	for i := range k {
		n = n<<8 | uint64(b[1+i])
	}
	// A number has one form alone: what Put would write in fewer bytes is none (so no k above 8 is taken).
	if n <= lead || width(n) < k {
		return 0, nil, false
	}
	return n, b[1+k:], true
}
