package rule

import (
	"fmt"
	"math"
	"strings"
	"testing"

	"waystone/api"
)

// wantRefused asks for ErrRule, beside which there is the zero rule.
func wantRefused(t *testing.T, s string) {
	t.Helper()
	if r, e := Parse(s); r != (api.Rule{}) || e != api.ErrRule {
		t.Errorf("Parse(%.60q): %v, %v", s, r, e)
	}
}

// wantText asks for a rule's text, and for the rule of that.
func wantText(t *testing.T, r api.Rule, want string) {
	t.Helper()
	if s := Text(r); s != want {
		t.Errorf("Text(%v): %q; want %q", r, s, want)
	}
	if got, e := Parse(want); got != r || e != api.OK {
		t.Errorf("Parse(%q): %v, %v; want %v", want, got, e, r)
	}
}

// P7.1, R2: texts of every kind.
func TestTexts(t *testing.T) {
	for _, c := range []struct {
		r api.Rule
		s string
	}{
		{ordinary(api.Forward), "7 3 10 forward 0.0.0.100-0.0.0.200 2"},
		{ordinary(api.Drop), "7 3 10 drop 0.0.0.100-0.0.0.200"},
		{ordinary(api.Permit), "7 3 10 permit 0.0.0.100-0.0.0.200"},
		{ordinary(api.Deny), "7 3 10 deny 0.0.0.100-0.0.0.200"},
		{api.Rule{ID: 7, Prio: 10, R: rg(10<<24, 11<<24-1), Port: 3}, "7 0 10 forward 10.0.0.0-10.255.255.255 3"},
		{api.Rule{ID: 1}, "1 0 0 forward 0.0.0.0-0.0.0.0 0"},
		{api.Rule{ID: 1, Kind: api.Drop}, "1 0 0 drop 0.0.0.0-0.0.0.0"},
		{api.Rule{ID: 1, Kind: api.Permit}, "1 0 0 permit 0.0.0.0-0.0.0.0"},
		{api.Rule{ID: 1, Kind: api.Deny}, "1 0 0 deny 0.0.0.0-0.0.0.0"},
		{api.Rule{ID: 1 << 20, Device: 7, Prio: 1024, R: rg(last, last), Port: 3}, "1048576 7 1024 forward 255.255.255.255-255.255.255.255 3"},
		{api.Rule{ID: 1 << 20, Device: 7, Prio: 1024, Kind: api.Drop, R: rg(0, last)}, "1048576 7 1024 drop 0.0.0.0-255.255.255.255"},
		{api.Rule{ID: 1 << 20, Device: 7, Prio: 1024, Kind: api.Permit, R: rg(0, last)}, "1048576 7 1024 permit 0.0.0.0-255.255.255.255"},
		{api.Rule{ID: 1 << 20, Device: 7, Prio: 1024, Kind: api.Deny, R: rg(0, last)}, "1048576 7 1024 deny 0.0.0.0-255.255.255.255"},
	} {
		wantText(t, c.r, c.s)
	}
}

// P7.1, R2: each number at its ends, and where it has a figure more.
func TestTextNumbers(t *testing.T) {
	for _, id := range []int{1, 2, 9, 10, 11, 99, 100, 101, 999, 1000, 65535, 65536, 1<<20 - 1, 1 << 20} {
		for device := range 8 {
			for _, prio := range []int{0, 1, 9, 10, 99, 100, 999, 1000, 1023, 1024} {
				for port := range 4 {
					r := api.Rule{ID: id, Device: device, Prio: prio, R: rg(5, 6), Port: port}
					wantText(t, r, fmt.Sprintf("%d %d %d forward 0.0.0.5-0.0.0.6 %d", id, device, prio, port))
				}
				r := api.Rule{ID: id, Device: device, Prio: prio, Kind: api.Deny, R: rg(5, 6)}
				wantText(t, r, fmt.Sprintf("%d %d %d deny 0.0.0.5-0.0.0.6", id, device, prio))
			}
		}
	}
}

// P1: a rule that is not right has no text, and asking for it does no harm.
func TestTextsOfWrong(t *testing.T) {
	l := []api.Rule{{}, {ID: math.MinInt}, {ID: math.MaxInt}, {ID: 1, Kind: math.MinInt}, {ID: 1, Kind: math.MaxInt}, {ID: 1, Port: math.MinInt}, {ID: 1, Port: math.MaxInt}, {ID: 1, Kind: api.Drop, Port: 1}}
	for _, kind := range kinds() {
		for _, w := range wrongTurns() {
			r := ordinary(kind)
			w.do(&r)
			l = append(l, r)
		}
	}
	for _, r := range l {
		if s := Text(r); s != "" {
			t.Errorf("Text(%v): %q", r, s)
		}
	}
}

// right are parts of a right text, of Forward and of another kind.
func right() [][]string {
	return [][]string{
		{"7", "3", "10", "forward", "0.0.0.5-0.0.0.6", "2"},
		{"7", "3", "10", "permit", "0.0.0.5-0.0.0.6"},
	}
}

// with is the text of parts, of which one is another word.
func with(parts []string, i int, word string) string {
	l := append([]string{}, parts...)
	l[i] = word
	return strings.Join(l, " ")
}

// P7.1, R2: numbers that are not written so, or are too great, or too small, at each place.
func TestWrongNumbers(t *testing.T) {
	words := []string{
		"", "00", "01", "02", "03", "07", "010", "007", "+0", "+1", "+2", "+3", "+7", "-0", "-1", "-7", "1_0", "0x1", "0b1", "1e0", "1.0", "1.", ".1", "a", "1a", "a1", "\u0661", "\uff12", "\xff", "\x00",
		"1048577", "4294967297", "9223372036854775807", "9223372036854775808", "-9223372036854775808", "18446744073709551617", "18446744073709551618", strings.Repeat("1", 100), strings.Repeat("0", 10000) + "1", "forward", "0.0.0.1", "\t1", "1\t", "1\n", "1\r", "1,", "1-", "1/",
	}
	for _, parts := range right() {
		for _, i := range []int{0, 1, 2, 5} {
			if i >= len(parts) {
				continue
			}
			for _, w := range words {
				wantRefused(t, with(parts, i, w))
			}
		}
		wantRefused(t, with(parts, 0, "0"))
		wantRefused(t, with(parts, 1, "8"))
		wantRefused(t, with(parts, 1, "10"))
		wantRefused(t, with(parts, 2, "1025"))
		wantRefused(t, with(parts, 2, "10240"))
	}
	wantRefused(t, with(right()[0], 5, "4"))
	wantRefused(t, with(right()[0], 5, "10"))
}

// P7.1, R2: words that are no kind, or are not written so.
func TestWrongKinds(t *testing.T) {
	words := []string{
		"", "0", "1", "2", "3", "send", "Forward", "FORWARD", "forwarD", "Drop", "DROP", "Permit", "PERMIT", "Deny", "DENY", "forwar", "forwards", "dro", "drops", "permi", "permits", "den", "denys", "denies", "allow", "f", "d", "p",
		"drop,", "drop\t", "\tdrop", "drop\x00", "forwarddrop", "forward,drop", "dr\u00f6p", "\uff44rop", "0.0.0.5-0.0.0.6",
	}
	for _, parts := range right() {
		for _, w := range words {
			wantRefused(t, with(parts, 3, w))
		}
	}
}

// P7.1, R2: what is no range's text, a prefix's too.
func TestWrongRanges(t *testing.T) {
	words := []string{
		"", "-", "0.0.0.0/0", "10.0.0.0/8", "0.0.0.5/32", "0.0.0.4/31", "255.255.255.255/32", "0.0.0.5", "0.0.0.5-", "-0.0.0.5", "0.0.0.6-0.0.0.5", "255.255.255.255-0.0.0.0", "0.0.0.5-0.0.0.6-0.0.0.7", "0.0.0.5--0.0.0.6",
		"0.0.0.05-0.0.0.6", "0.0.0.5-0.0.0.256", "0.0.5-0.0.0.6", "0.0.0.5-0.0.0.6.0", "5-6", "+0.0.0.5-0.0.0.6", "0.0.0.5-0.0.0.6\t", "0.0.0.5/32-0.0.0.6/32", "0.0.0.5\u20130.0.0.6", "x", "drop", "2",
	}
	for _, parts := range right() {
		for _, w := range words {
			wantRefused(t, with(parts, 4, w))
		}
	}
}

// P7.1, R2: a port where none may be, none where one must be, and more behind it.
func TestWrongPorts(t *testing.T) {
	for _, kind := range []string{"drop", "permit", "deny"} {
		s := "7 3 10 " + kind + " 0.0.0.5-0.0.0.6"
		if _, e := Parse(s); e != api.OK {
			t.Fatalf("Parse(%q): %v", s, e)
		}
		for _, more := range []string{" ", " 0", " 1", " 2", " 3", " 4", " -1", " 0 0", " x", "  "} {
			wantRefused(t, s+more)
		}
	}
	s := "7 3 10 forward 0.0.0.5-0.0.0.6"
	wantRefused(t, s)
	for _, more := range []string{" ", "  ", " 2 ", " 2 2", " 2 0", "  2", " 2  ", " 2 x", " 2;", " 2\n", "\t2", "2", " 2 7 3 10 drop 0.0.0.5-0.0.0.6", " 2" + strings.Repeat(" ", 10000), " 2" + strings.Repeat(" 2", 10000)} {
		wantRefused(t, s+more)
	}
}

// P7.1, R2: a blank too many, at the beginning, at the end and at each place between; one too few; and something else in its place.
func TestWrongBlanks(t *testing.T) {
	for _, parts := range right() {
		s := strings.Join(parts, " ")
		if _, e := Parse(s); e != api.OK {
			t.Fatalf("Parse(%q): %v", s, e)
		}
		for _, blank := range []string{" ", "\t", "\n", "\r", "\v", "\f", "\x00", "\u00a0", "\u2003"} {
			wantRefused(t, blank+s)
			wantRefused(t, s+blank)
			wantRefused(t, blank+s+blank)
		}
		for i := 1; i < len(parts); i++ {
			ahead, behind := strings.Join(parts[:i], " "), strings.Join(parts[i:], " ")
			for _, between := range []string{"", "  ", "   ", "\t", " \t", "\t ", "\n", " \n", "\r", "\v", "\f", "\x00", "_", ",", "\u00a0", "\u2003"} {
				wantRefused(t, ahead+between+behind)
			}
			wantRefused(t, ahead)
			wantRefused(t, behind)
			wantRefused(t, ahead+" ")
			wantRefused(t, behind+" "+ahead)
		}
	}
	for _, s := range []string{"", " ", "    ", "     ", "      ", "\n", "\x00", strings.Repeat(" ", 100000), strings.Repeat("7 ", 100000), strings.Repeat("7", 100000)} {
		wantRefused(t, s)
	}
}

// oneText asks whether the rule of a text, if there is one, is right and has just this text, and the zero rule stands beside ErrRule.
func oneText(t *testing.T, s string) {
	t.Helper()
	r, e := Parse(s)
	if e == api.OK && (!Right(r) || Text(r) != s) || e != api.OK && (e != api.ErrRule || r != (api.Rule{})) {
		t.Fatalf("Parse(%q): %v, %v", s, r, e)
	}
}

// P7.1, R2: right texts with one byte less, another one, or one more: what is taken then has just this text.
func TestOneText(t *testing.T) {
	for _, parts := range right() {
		s := strings.Join(parts, " ")
		for i := range len(s) + 1 {
			for b := range 256 {
				oneText(t, s[:i]+string([]byte{byte(b)})+s[i:])
				if i < len(s) {
					oneText(t, s[:i]+string([]byte{byte(b)})+s[i+1:])
				}
			}
			if i < len(s) {
				oneText(t, s[:i]+s[i+1:])
			}
		}
	}
}

// P7.3: a right rule's text is parsed as it, over drawn rules; no two of them share a text.
func TestThereAndBack(t *testing.T) {
	mix, seen := mixer(7), map[string]api.Rule{}
	for range 20000 {
		r := mix.wide()
		if !Right(r) {
			t.Fatalf("drawn: %v", r)
		}
		s := Text(r)
		if got, e := Parse(s); got != r || e != api.OK {
			t.Fatalf("Parse(Text(%v)): %v, %v", r, got, e)
		}
		if was, is := seen[s]; is && was != r {
			t.Fatalf("%v and %v: %q", was, r, s)
		}
		seen[s] = r
	}
}

// P1: any text at all.
func FuzzParse(f *testing.F) {
	f.Add("7 3 10 forward 0.0.0.5-0.0.0.6 2")
	f.Add("1048576 7 1024 deny 0.0.0.0-255.255.255.255")
	f.Add("7 3 10 drop 10.0.0.0/8")
	f.Fuzz(oneText)
}

// P7.3: any rule at all: a right one there and back, any other one without a text.
func FuzzThereAndBack(f *testing.F) {
	f.Add(7, 3, 10, 0, uint32(5), uint32(6), 2)
	f.Add(1<<20, 7, 1024, 3, uint32(0), uint32(last), 0)
	f.Add(0, -1, 1025, 4, uint32(6), uint32(5), 4)
	f.Fuzz(func(t *testing.T, id, device, prio, kind int, from, to uint32, port int) {
		r := api.Rule{ID: id, Device: device, Prio: prio, Kind: api.RuleKind(kind), R: rg(from, to), Port: port}
		s := Text(r)
		if !Right(r) {
			if s != "" {
				t.Fatalf("Text(%v): %q", r, s)
			}
			return
		}
		if got, e := Parse(s); got != r || e != api.OK {
			t.Fatalf("Parse(%q): %v, %v; want %v", s, got, e, r)
		}
	})
}
