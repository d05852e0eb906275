package prefix

import (
	"strconv"
	"strings"

	"waystone/api"
)

// Addr is an address's text.
func Addr(a uint32) string {
	s := ""
	for i, b := range bytesOf(a) {
		if i > 0 {
			s += "."
		}
		s += strconv.Itoa(int(b))
	}
	return s
}

// ParseAddr is the address of a text.
func ParseAddr(s string) (uint32, api.Errno) {
	var l [4]byte
	for i := range l {
		part, rest, more := strings.Cut(s, ".")
		n, ok := figures(part, 255)
		if !ok || more != (i < len(l)-1) {
			return 0, api.ErrPrefix
		}
		l[i], s = byte(n), rest
	}
	return ofBytes(l), api.OK
}

// Text is a prefix's text; one that is not right has none.
func Text(p api.Prefix) string {
	if !Right(p) {
		return ""
	}
	return Addr(p.Addr) + "/" + strconv.Itoa(p.Len)
}

// Parse is the prefix of a text.
func Parse(s string) (api.Prefix, api.Errno) {
	// Without a stroke the second part is empty, which is no number.
	addr, length, _ := strings.Cut(s, "/")
	a, e := ParseAddr(addr)
	n, ok := figures(length, width)
	p := api.Prefix{Addr: a, Len: n}
	if e != api.OK || !ok || !Right(p) {
		return api.Prefix{}, api.ErrPrefix
	}
	return p, api.OK
}

// RangeText is a range's text; one that is not right has none.
func RangeText(r api.Range) string {
	if !rightRange(r) {
		return ""
	}
	return Addr(r.From) + "-" + Addr(r.To)
}

// ParseRange is the range of a text.
func ParseRange(s string) (api.Range, api.Errno) {
	from, to, two := strings.Cut(s, "-")
	if !two {
		return parsePrefixRange(s)
	}
	a, e := ParseAddr(from)
	b, f := ParseAddr(to)
	r := api.Range{From: a, To: b}
	if e != api.OK || f != api.OK || !rightRange(r) {
		return api.Range{}, api.ErrPrefix
	}
	return r, api.OK
}

// parsePrefixRange is the range of a prefix's text.
func parsePrefixRange(s string) (api.Range, api.Errno) {
	p, e := Parse(s)
	if e != api.OK {
		return api.Range{}, e
	}
	return Range(p)
}

// bytesOf is an address's four bytes, the highest first.
func bytesOf(a uint32) [4]byte {
	return [4]byte{byte(a >> 24), byte(a >> 16), byte(a >> 8), byte(a)}
}

// ofBytes is the address of four bytes, the highest first.
func ofBytes(l [4]byte) uint32 {
	return uint32(l[0])<<24 | uint32(l[1])<<16 | uint32(l[2])<<8 | uint32(l[3])
}

// figures is the number, at most most, that is written just so; false, if there is none.
func figures(s string, most int) (int, bool) {
	if s == "" || len(s) > 1 && s[0] == '0' {
		return 0, false
	}
	n := 0
	for i := range len(s) {
		if s[i] < '0' || s[i] > '9' {
			return 0, false
		}
		n = n*10 + int(s[i]-'0')
		// Asked at each figure, so that a long text can't wrap the number round.
		if n > most {
			return 0, false
		}
	}
	return n, true
}
