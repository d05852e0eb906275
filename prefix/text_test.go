package prefix

import (
	"fmt"
	"math"
	"strings"
	"testing"

	"waystone/api"
)

// noAddrs are texts of no address.
func noAddrs() []string {
	l := []string{
		"", ".", "...", "....", "0", "1.2", "1.2.3", "1.2.3.", ".1.2.3", "1.2.3.4.", ".1.2.3.4", "1..3.4", "1.2..4", "1.2.3.4.5", "1.2.3.4.0",
		"1,2,3,4", "1.2.3:4", "1.2.3.4\n", "\x001.2.3.4", "1.2.3.4\x00", "1.2.3.4x", "x1.2.3.4", "0x1.2.3.4", "1_0.2.3.4", "1e1.2.3.4",
		"1.2.3./", "1.2.3.:", "\u0661.2.3.4", "1.2.3.\uff14", "\xff.2.3.4", "16909060", "localhost", "::1",
		"1.2.3.18446744073709551617", "1.2.3.4294967297", "1.2.3." + strings.Repeat("9", 100), strings.Repeat("1.", 10000), strings.Repeat("0", 10000) + ".0.0.0",
	}
	for _, w := range []string{"", "00", "01", "007", "0255", "256", "257", "260", "300", "999", "1000", "2550", "-1", "-0", "+0", "+1", " 1", "1 ", "\t1", "a", "1a", "a1"} {
		for i := range 4 {
			parts := []string{"1", "2", "3", "4"}
			parts[i] = w
			l = append(l, strings.Join(parts, "."))
		}
	}
	return l
}

// noPrefixes are texts of no prefix.
func noPrefixes() []string {
	l := []string{
		"", "/", "//", "1.2.3.4", "1.2.3.4/", "/32", "1.2.3.4//32", "1.2.3.4/32/", "/1.2.3.4/32", "1.2.3.4/32/32", "1.2.3.4/31/1", "1.2.3.4\\32",
		"1.2.3/8", "1.2.3.0.0/8", "0/0", "0.0.0.0/0.0.0.0", "1.2.3.4-1.2.3.5", "32/1.2.3.4",
		"1.2.3.5/31", "1.2.3.4/29", "0.0.0.1/0", "255.255.255.255/31", "128.0.0.0/0", "10.0.0.1/8", "10.128.0.0/8",
	}
	for _, w := range []string{"00", "01", "08", "032", "33", "34", "39", "40", "64", "100", "320", "255", "256", "-1", "-0", "+0", "+8", " 8", "8 ", "\t8", "a", "8a", "0x8", "4294967296", "18446744073709551616", strings.Repeat("1", 100)} {
		l = append(l, "0.0.0.0/"+w)
	}
	for _, s := range noAddrs() {
		l = append(l, s+"/32", s)
	}
	return l
}

// noRanges are texts of no range, and of no prefix.
func noRanges() []string {
	l := []string{
		"-", "--", "0.0.0.1-", "-0.0.0.1", "0.0.0.1--0.0.0.2", "0.0.0.1-0.0.0.2-", "-0.0.0.1-0.0.0.2", "0.0.0.1-0.0.0.2-0.0.0.3", "0.0.0.1 - 0.0.0.2", "0.0.0.1- 0.0.0.2",
		"0.0.0.2-0.0.0.1", "0.0.0.1-0.0.0.0", "255.255.255.255-255.255.255.254", "255.255.255.255-0.0.0.0", "128.0.0.0-127.255.255.255", "1.0.0.0-0.255.255.255",
		"0.0.0.0/32-0.0.0.1", "0.0.0.0-0.0.0.1/32", "0.0.0.0/32-0.0.0.1/32", "0.0.0.0/0-0.0.0.0/0", "0.0.0.0/-0.0.0.1",
	}
	for _, s := range noAddrs() {
		l = append(l, s+"-255.255.255.255", "0.0.0.0-"+s, s+"-"+s)
	}
	for _, s := range noPrefixes() {
		if !strings.Contains(s, "-") {
			l = append(l, s)
		}
	}
	return l
}

// P2.1: an address's text, and back.
func TestAddrs(t *testing.T) {
	for _, c := range []struct {
		a uint32
		s string
	}{
		{0, "0.0.0.0"}, {1, "0.0.0.1"}, {9, "0.0.0.9"}, {10, "0.0.0.10"}, {99, "0.0.0.99"}, {100, "0.0.0.100"}, {249, "0.0.0.249"}, {250, "0.0.0.250"}, {255, "0.0.0.255"}, {256, "0.0.1.0"},
		{0x01020304, "1.2.3.4"}, {0x0a000000, "10.0.0.0"}, {0xc0a80101, "192.168.1.1"}, {1 << 31, "128.0.0.0"}, {0xff000000, "255.0.0.0"}, {last - 1, "255.255.255.254"}, {last, "255.255.255.255"},
	} {
		if s := Addr(c.a); s != c.s {
			t.Errorf("Addr(%d): %q, want %q", c.a, s, c.s)
		}
		if a, e := ParseAddr(c.s); a != c.a || e != api.OK {
			t.Errorf("ParseAddr(%q): %d, %v, want %d", c.s, a, e, c.a)
		}
	}
}

// P2.1, P2.3: each number at each of the four places.
func TestEachByte(t *testing.T) {
	for n := range uint32(256) {
		for k := range 4 {
			a := 0x07070707&^(0xff<<(8*k)) | n<<(8*k)
			want := fmt.Sprintf("%d.%d.%d.%d", a/(1<<24), a/(1<<16)%256, a/(1<<8)%256, a%256)
			if s := Addr(a); s != want {
				t.Errorf("Addr(%d): %q, want %q", a, s, want)
			}
			if b, e := ParseAddr(want); b != a || e != api.OK {
				t.Errorf("ParseAddr(%q): %d, %v", want, b, e)
			}
		}
	}
}

// P2.1: what is no address's text.
func TestWrongAddrs(t *testing.T) {
	for _, s := range noAddrs() {
		if a, e := ParseAddr(s); a != 0 || e != api.ErrPrefix {
			t.Errorf("ParseAddr(%.40q): %d, %v", s, a, e)
		}
	}
	for _, s := range []string{"0.0.0.0/0", "1.2.3.4/32", "1.2.3.4-1.2.3.4"} {
		if a, e := ParseAddr(s); a != 0 || e != api.ErrPrefix {
			t.Errorf("ParseAddr(%q): %d, %v", s, a, e)
		}
	}
}

// P2.1: a prefix's text, and back, as a prefix and as its range.
func TestPrefixes(t *testing.T) {
	for _, c := range []struct {
		p api.Prefix
		s string
		r api.Range
	}{
		{api.Prefix{}, "0.0.0.0/0", api.Range{From: 0, To: last}},
		{api.Prefix{Len: 1}, "0.0.0.0/1", api.Range{From: 0, To: 1<<31 - 1}},
		{api.Prefix{Addr: 1 << 31, Len: 1}, "128.0.0.0/1", api.Range{From: 1 << 31, To: last}},
		{api.Prefix{Addr: 10 << 24, Len: 8}, "10.0.0.0/8", api.Range{From: 10 << 24, To: 11<<24 - 1}},
		{api.Prefix{Addr: 0xc0a80100, Len: 24}, "192.168.1.0/24", api.Range{From: 0xc0a80100, To: 0xc0a801ff}},
		{api.Prefix{Addr: 0x01020304, Len: 30}, "1.2.3.4/30", api.Range{From: 0x01020304, To: 0x01020307}},
		{api.Prefix{Addr: last - 1, Len: 31}, "255.255.255.254/31", api.Range{From: last - 1, To: last}},
		{api.Prefix{Len: 32}, "0.0.0.0/32", api.Range{}},
		{api.Prefix{Addr: last, Len: 32}, "255.255.255.255/32", api.Range{From: last, To: last}},
	} {
		if s := Text(c.p); s != c.s {
			t.Errorf("Text(%v): %q, want %q", c.p, s, c.s)
		}
		if p, e := Parse(c.s); p != c.p || e != api.OK {
			t.Errorf("Parse(%q): %v, %v, want %v", c.s, p, e, c.p)
		}
		if r, e := ParseRange(c.s); r != c.r || e != api.OK {
			t.Errorf("ParseRange(%q): %v, %v, want %v", c.s, r, e, c.r)
		}
	}
}

// P2.1: what is no prefix's text.
func TestWrongPrefixes(t *testing.T) {
	for _, s := range noPrefixes() {
		if p, e := Parse(s); p != (api.Prefix{}) || e != api.ErrPrefix {
			t.Errorf("Parse(%.40q): %v, %v", s, p, e)
		}
	}
}

// P2.1: a range's text, and back.
func TestRanges(t *testing.T) {
	for _, c := range []struct {
		r api.Range
		s string
	}{
		{api.Range{}, "0.0.0.0-0.0.0.0"},
		{api.Range{From: 5, To: 256}, "0.0.0.5-0.0.1.0"},
		{api.Range{From: 0x01020304, To: 0x01020304}, "1.2.3.4-1.2.3.4"},
		{api.Range{From: 1<<31 - 1, To: 1 << 31}, "127.255.255.255-128.0.0.0"},
		{api.Range{From: 0, To: last}, "0.0.0.0-255.255.255.255"},
		{api.Range{From: last, To: last}, "255.255.255.255-255.255.255.255"},
	} {
		if s := RangeText(c.r); s != c.s {
			t.Errorf("RangeText(%v): %q, want %q", c.r, s, c.s)
		}
		if r, e := ParseRange(c.s); r != c.r || e != api.OK {
			t.Errorf("ParseRange(%q): %v, %v, want %v", c.s, r, e, c.r)
		}
	}
}

// P2.1: what is neither a range's text nor a prefix's.
func TestWrongRanges(t *testing.T) {
	for _, s := range noRanges() {
		if r, e := ParseRange(s); r != (api.Range{}) || e != api.ErrPrefix {
			t.Errorf("ParseRange(%.40q): %v, %v", s, r, e)
		}
	}
}

// P1: a prefix, or a range, that is not right has no text, and asking for it does no harm.
func TestTextsOfWrong(t *testing.T) {
	for _, p := range []api.Prefix{{Len: -1}, {Len: 33}, {Addr: 1}, {Addr: 1, Len: 31}, {Len: math.MinInt}, {Len: math.MaxInt}} {
		if s := Text(p); s != "" {
			t.Errorf("Text(%v): %q", p, s)
		}
	}
	for _, r := range []api.Range{{From: 1}, {From: last}, {From: last, To: last - 1}} {
		if s := RangeText(r); s != "" {
			t.Errorf("RangeText(%v): %q", r, s)
		}
	}
}

// P2.3: what is written is parsed.
func TestTextsThereAndBack(t *testing.T) {
	for _, a := range marks() {
		if b, e := ParseAddr(Addr(a)); b != a || e != api.OK {
			t.Errorf("%d: %d, %v", a, b, e)
		}
		for n := 0; n <= 32; n++ {
			p := api.Prefix{Addr: uint32(uint64(a) / power(32-n) * power(32-n)), Len: n}
			if q, e := Parse(Text(p)); q != p || e != api.OK {
				t.Errorf("%v: %v, %v", p, q, e)
			}
			own, _ := Range(p)
			if r, e := ParseRange(Text(p)); r != own || e != api.OK {
				t.Errorf("%v: %v, %v", p, r, e)
			}
		}
		for _, b := range marks() {
			r := api.Range{From: min(a, b), To: max(a, b)}
			if q, e := ParseRange(RangeText(r)); q != r || e != api.OK {
				t.Errorf("%v: %v, %v", r, q, e)
			}
		}
	}
}

// oneText asks whether what is parsed from s, if anything is, has just this text, and the zero value stands beside an error.
func oneText(t *testing.T, s string) {
	t.Helper()
	if a, e := ParseAddr(s); e == api.OK && Addr(a) != s || e != api.OK && (a != 0 || e != api.ErrPrefix) {
		t.Fatalf("ParseAddr(%q): %d, %v", s, a, e)
	}
	p, e := Parse(s)
	if e == api.OK && (!Right(p) || Text(p) != s) || e != api.OK && (p != (api.Prefix{}) || e != api.ErrPrefix) {
		t.Fatalf("Parse(%q): %v, %v", s, p, e)
	}
	r, f := ParseRange(s)
	if f == api.OK && e != api.OK && (r.From > r.To || RangeText(r) != s) || f != api.OK && (e == api.OK || r != (api.Range{}) || f != api.ErrPrefix) {
		t.Fatalf("ParseRange(%q): %v, %v", s, r, f)
	}
}

// P2.1: each byte in the place of each one of right texts: what is taken then has just this text.
func TestOneText(t *testing.T) {
	for _, s := range []string{"10.20.0.0", "1.2.3.4/30", "0.0.0.0/0", "0.0.0.5-0.0.1.0", "255.255.255.254/31", "100.0.0.9-200.0.0.10"} {
		oneText(t, s)
		for i := range len(s) {
			oneText(t, s[:i]+s[i+1:])
			for b := range 256 {
				oneText(t, s[:i]+string([]byte{byte(b)})+s[i+1:])
				oneText(t, s[:i]+string([]byte{byte(b)})+s[i:])
			}
		}
	}
}

// P1: any text at all.
func FuzzTexts(f *testing.F) {
	f.Add("1.2.3.4/30")
	f.Add("0.0.0.5-0.0.1.0")
	f.Add("255.255.255.255")
	f.Fuzz(oneText)
}
