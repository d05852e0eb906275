package num

import (
	"bytes"
	"cmp"
	"math"
	"strings"
	"testing"

	"waystone/api"
)

const top = math.MaxUint64

// edges are numbers at which the count of bytes changes, and some between.
func edges() []uint64 {
	l := []uint64{0, 1, 2, 127, 128, 238, 239, 240, 241, 254}
	for k := 1; k < 8; k++ {
		p := uint64(1) << (8 * k)
		l = append(l, p-1, p, p+1, p+p/2, 2*p, 200*p)
	}
	return append(l, 1<<63-1, 1<<63, top-1, top)
}

// plain is a number's bytes, written anew from the chapter's words.
func plain(n uint64) []byte {
	if n < 240 {
		return []byte{byte(n)}
	}
	var l []byte
	for ; n > 0; n /= 256 {
		l = append([]byte{byte(n % 256)}, l...)
	}
	return append([]byte{byte(239 + len(l))}, l...)
}

// wantNumber asks r for a number, and for its place afterwards.
func wantNumber(t *testing.T, r *Reader, most, n uint64, e api.Errno, left int) {
	t.Helper()
	if m, f := r.Number(most); m != n || f != e || r.Left() != left {
		t.Errorf("Number(%d): %d, %v, left %d; want %d, %v, left %d", most, m, f, r.Left(), n, e, left)
	}
}

// wantText asks r for a text, and for its place afterwards.
func wantText(t *testing.T, r *Reader, most int, s string, e api.Errno, left int) {
	t.Helper()
	if x, f := r.Text(most); x != s || f != e || r.Left() != left {
		t.Errorf("Text(%d): %d bytes, %v, left %d; want %d bytes, %v, left %d", most, len(x), f, r.Left(), len(s), e, left)
	}
}

// P1.1: Put.
func TestPutBytes(t *testing.T) {
	for _, c := range []struct {
		n    uint64
		want string
	}{
		{0, "\x00"}, {7, "\x07"}, {239, "\xef"}, {240, "\xf0\xf0"}, {255, "\xf0\xff"}, {256, "\xf1\x01\x00"},
		{300, "\xf1\x01\x2c"}, {65535, "\xf1\xff\xff"}, {65536, "\xf2\x01\x00\x00"},
		{1<<56 - 1, "\xf6\xff\xff\xff\xff\xff\xff\xff"}, {1 << 56, "\xf7\x01\x00\x00\x00\x00\x00\x00\x00"},
		{0x0102030405060708, "\xf7\x01\x02\x03\x04\x05\x06\x07\x08"}, {top, "\xf7\xff\xff\xff\xff\xff\xff\xff\xff"},
	} {
		if b := Put(nil, c.n); string(b) != c.want {
			t.Errorf("Put(%d): %x, want %x", c.n, b, c.want)
		}
	}
	for _, n := range edges() {
		if b := Put([]byte("ab"), n); string(b) != "ab"+string(plain(n)) {
			t.Errorf("Put(%d): %x", n, b)
		}
	}
}

// P1.1: Text.
func TestTextBytes(t *testing.T) {
	for _, n := range []int{0, 1, 2, 239, 240, 255, 256, 70000} {
		s := strings.Repeat("\xff\x00x", n)[:n]
		if b := Text([]byte("ab"), s); string(b) != "ab"+string(plain(uint64(n)))+s {
			t.Errorf("Text of %d bytes: %d bytes", n, len(b))
		}
	}
}

// P1.1: b stays, what lies behind its length too, and no two answers share memory.
func TestPutLeavesItsArgument(t *testing.T) {
	puts := map[string]func(b []byte, i int) []byte{
		"small": func(b []byte, i int) []byte { return Put(b, uint64(i)) },
		"great": func(b []byte, i int) []byte { return Put(b, top-uint64(i)) },
		"empty": func(b []byte, i int) []byte { return Text(b, "") },
		"text":  func(b []byte, i int) []byte { return Text(b, strings.Repeat("x", i)) },
	}
	for name, put := range puts {
		all := []byte("abcdefghijklmnopqrstuvwxyz")
		for _, n := range []int{0, 3} {
			b := all[:n]
			x, y := put(b, 1), put(b, 2)
			z := string(x)
			if string(all) != "abcdefghijklmnopqrstuvwxyz" {
				t.Fatalf("%s: written into: %s", name, all)
			}
			for i := range y {
				y[i] = '!'
			}
			if string(x) != z || string(all) != "abcdefghijklmnopqrstuvwxyz" {
				t.Errorf("%s: memory is shared: %q, %s", name, x, all)
			}
			for i := range x {
				x[i] = '?'
			}
			if string(all) != "abcdefghijklmnopqrstuvwxyz" {
				t.Errorf("%s: memory is shared with the argument: %s", name, all)
			}
		}
	}
}

// P1.1: a number of just the most that is asked, and of one more.
func TestNumberAtMost(t *testing.T) {
	for _, n := range edges() {
		b := append(plain(n), 'z')
		r := Open(b)
		if n > 0 {
			wantNumber(t, r, n-1, 0, api.ErrNum, len(b))
			wantNumber(t, r, 0, 0, api.ErrNum, len(b))
		}
		wantNumber(t, r, n, n, api.OK, 1)
		if n < top {
			wantNumber(t, Open(b), n+1, n, api.OK, 1)
		}
		wantNumber(t, Open(b), top, n, api.OK, 1)
	}
}

// P1.1: a text of just the most that is asked, and of one more.
func TestTextAtMost(t *testing.T) {
	for _, n := range []int{0, 1, 2, 239, 240, 255, 256, 70000} {
		s := strings.Repeat("\xff\x00x", n)[:n]
		b := append(append(plain(uint64(n)), s...), 'z')
		r := Open(b)
		wantText(t, r, n-1, "", api.ErrNum, len(b))
		wantText(t, r, -1, "", api.ErrNum, len(b))
		wantText(t, r, math.MinInt, "", api.ErrNum, len(b))
		wantText(t, r, n, s, api.OK, 1)
		wantText(t, Open(b), n+1, s, api.OK, 1)
		wantText(t, Open(b), math.MaxInt, s, api.OK, 1)
	}
}

// P1.1: one behind the other, each error leaves the reader where it is.
func TestReaderGoesOn(t *testing.T) {
	b := Put(Text(Put(Text(Put(nil, 300), "hi"), 5), ""), 240)
	r := Open(b)
	wantNumber(t, r, 299, 0, api.ErrNum, 10)
	wantText(t, r, 1000, "", api.ErrNum, 10)
	wantNumber(t, r, 300, 300, api.OK, 7)
	wantText(t, r, 1, "", api.ErrNum, 7)
	wantText(t, r, 2, "hi", api.OK, 4)
	wantText(t, r, 9, "", api.ErrNum, 4)
	wantNumber(t, r, 9, 5, api.OK, 3)
	wantText(t, r, 0, "", api.OK, 2)
	wantText(t, r, 1000, "", api.ErrNum, 2)
	wantNumber(t, r, 240, 240, api.OK, 0)
	wantNumber(t, r, top, 0, api.ErrNum, 0)
	wantText(t, r, math.MaxInt, "", api.ErrNum, 0)
}

// P1.1: bytes that end too soon.
func TestBytesEndTooSoon(t *testing.T) {
	for _, n := range edges() {
		b := plain(n)
		for i := range len(b) {
			wantNumber(t, Open(b[:i]), top, 0, api.ErrNum, i)
			wantText(t, Open(b[:i]), math.MaxInt, "", api.ErrNum, i)
		}
	}
	for _, n := range []int{1, 2, 239, 240, 300} {
		b := append(plain(uint64(n)), make([]byte, n)...)
		for i := range len(b) {
			wantText(t, Open(b[:i]), math.MaxInt, "", api.ErrNum, i)
		}
	}
	for _, n := range []uint64{1 << 31, 1 << 32, 1<<63 - 1, 1 << 63, top} {
		b := append(plain(n), "text"...)
		wantText(t, Open(b), math.MaxInt, "", api.ErrNum, len(b))
	}
}

// P1.1: what lies behind the length of the bytes is not read.
func TestReadsNothingBehind(t *testing.T) {
	b := []byte("\xf1\x01\x2c")
	wantNumber(t, Open(b[:2]), top, 0, api.ErrNum, 2)
	wantNumber(t, Open(b[:0]), top, 0, api.ErrNum, 0)
	c := []byte("\x02hi")
	wantText(t, Open(c[:2]), 9, "", api.ErrNum, 2)
}

// P1.1: no bytes at all.
func TestNoBytes(t *testing.T) {
	for _, r := range []*Reader{Open(nil), Open([]byte{}), new(Reader)} {
		wantNumber(t, r, top, 0, api.ErrNum, 0)
		wantNumber(t, r, 0, 0, api.ErrNum, 0)
		wantText(t, r, math.MaxInt, "", api.ErrNum, 0)
		wantText(t, r, 0, "", api.ErrNum, 0)
	}
}

// P1.1: a nil reader.
func TestNilReader(t *testing.T) {
	var r *Reader
	for _, most := range []uint64{0, 1, top} {
		wantNumber(t, r, most, 0, api.ErrArg, 0)
	}
	for _, most := range []int{math.MinInt, -1, 0, 1, math.MaxInt} {
		wantText(t, r, most, "", api.ErrArg, 0)
	}
}

// P2, and P1.1: what is read does not hang on what is done to the bytes later on, or to another reader of them.
func TestReaderOfItsOwn(t *testing.T) {
	b := []byte("\x07\x02hi")
	r, q := Open(b), Open(b)
	copy(b, "\x09\x01??")
	wantNumber(t, r, top, 7, api.OK, 3)
	wantText(t, r, 9, "hi", api.OK, 0)
	wantNumber(t, q, top, 7, api.OK, 3)
	if string(b) != "\x09\x01??" {
		t.Errorf("written into: %x", b)
	}
}

// P1.2: what is put is read.
func TestThereAndBack(t *testing.T) {
	var b []byte
	for i, n := range edges() {
		b = Text(Put(b, n), strings.Repeat("\x80\xf1", i*10))
	}
	r := Open(b)
	for i, n := range edges() {
		if m, e := r.Number(n); m != n || e != api.OK {
			t.Fatalf("%d: %d, %v", n, m, e)
		}
		if s, e := r.Text(i * 20); s != strings.Repeat("\x80\xf1", i*10) || e != api.OK {
			t.Fatalf("text %d: %q, %v", i, s, e)
		}
	}
	if r.Left() != 0 {
		t.Errorf("left: %d", r.Left())
	}
	for n := range uint64(70000) {
		if m, e := Open(Put(nil, n)).Number(n); m != n || e != api.OK {
			t.Fatalf("%d: %d, %v", n, m, e)
		}
	}
}

// P1.3: a number in more bytes than it needs, and a first byte that tells of more than eight.
func TestWrongNumbers(t *testing.T) {
	for _, s := range []string{
		"\xf0\x00", "\xf0\x05", "\xf0\xef", "\xf1\x00\x00", "\xf1\x00\xff", "\xf2\x00\x01\x00", "\xf2\x00\xff\xff",
		"\xf7\x00\xff\xff\xff\xff\xff\xff\xff", "\xf7\x00\x00\x00\x00\x00\x00\x00\x00", "\xf7\x00\x00\x00\x00\x00\x00\x00\x01",
		"\xf8\x01\x00\x00\x00\x00\x00\x00\x00\x00", "\xf8\x00\x00\x00\x00\x00\x00\x00\x00\x01", "\xff\x01\x00\x00",
		"\xff\x01\x01\x01\x01\x01\x01\x01\x01\x01\x01\x01\x01\x01\x01\x01\x01",
	} {
		for _, more := range []string{"", "\x00", strings.Repeat("x", 300)} {
			b := []byte(s + more)
			wantNumber(t, Open(b), top, 0, api.ErrNum, len(b))
			wantText(t, Open(b), math.MaxInt, "", api.ErrNum, len(b))
		}
	}
}

// sameBytes asks whether what is read from b, if anything is, has just the bytes that it was read from.
func sameBytes(t *testing.T, b []byte) {
	t.Helper()
	r := Open(b)
	n, e := r.Number(top)
	used := b[:len(b)-r.Left()]
	if e == api.OK && !bytes.Equal(plain(n), used) || e != api.OK && (n != 0 || len(used) != 0) {
		t.Fatalf("%x: number %d, %v, from %x", b, n, e, used)
	}
	r = Open(b)
	s, e := r.Text(math.MaxInt)
	used = b[:len(b)-r.Left()]
	if e == api.OK && string(plain(uint64(len(s))))+s != string(used) || e != api.OK && (s != "" || len(used) != 0) {
		t.Fatalf("%x: text %q, %v, from %x", b, s, e, used)
	}
}

// P1.3: what is read has just the bytes that it was read from.
func TestOneWay(t *testing.T) {
	for i := range 1 << 16 {
		sameBytes(t, []byte{byte(i >> 8), byte(i)})
	}
	marks := []byte{0, 1, 2, 239, 240, 241, 242, 247, 248, 255}
	for x := range 256 {
		for _, y := range marks {
			for _, z := range marks {
				for _, w := range marks {
					sameBytes(t, []byte{byte(x), y, z, w, 5, 6, 7, 8, 9, 10})
				}
			}
		}
	}
}

// P1.4: a lesser number's bytes come ahead of a greater one's.
func TestInOrder(t *testing.T) {
	l := edges()
	for _, x := range l {
		for _, y := range l {
			if got := bytes.Compare(Put(nil, x), Put(nil, y)); got != cmp.Compare(x, y) {
				t.Errorf("%d and %d: %d", x, y, got)
			}
		}
	}
	for n := range uint64(70000) {
		if bytes.Compare(Put(nil, n), Put(nil, n+1)) >= 0 {
			t.Fatalf("%d is not ahead of the next one", n)
		}
	}
}

// P1: any bytes at all are read without a panic, and in one way.
func FuzzReader(f *testing.F) {
	f.Add([]byte("\xf1\x01\x2c\x02hi"))
	f.Add([]byte("\xf7\xff\xff\xff\xff\xff\xff\xff\xff"))
	f.Fuzz(func(t *testing.T, b []byte) { sameBytes(t, b) })
}
