package rule

import (
	"strconv"
	"strings"

	"waystone/api"
	"waystone/prefix"
)

// words are the kinds', each at its kind's number.
var words = [4]string{"forward", "drop", "permit", "deny"}

// Text is a rule's text; one that is not right has none.
func Text(r api.Rule) string {
	if !Right(r) {
		return ""
	}
	l := []string{strconv.Itoa(r.ID), strconv.Itoa(r.Device), strconv.Itoa(r.Prio), words[r.Kind], prefix.RangeText(r.R)}
	if r.Kind == api.Forward {
		l = append(l, strconv.Itoa(r.Port))
	}
	return strings.Join(l, " ")
}

// Parse is the rule of a text.
func Parse(s string) (api.Rule, api.Errno) {
	r, ok := read(s)
	// Reading takes more than Text writes (a sign, noughts ahead, a prefix for a range), so the text is held against the rule's own.
	if !ok || !Right(r) || Text(r) != s {
		return api.Rule{}, api.ErrRule
	}
	return r, api.OK
}

// read is the rule that a text's parts tell, right or not; false, if one of them tells nothing.
func read(s string) (api.Rule, bool) {
	// Whatever is behind a sixth part stays in it, and makes it no number.
	l := strings.SplitN(s, " ", 6)
	if len(l) < 5 {
		return api.Rule{}, false
	}
	id, okID := number(l[0])
	device, okDevice := number(l[1])
	prio, okPrio := number(l[2])
	kind, okKind := kindOf(l[3])
	r, e := prefix.ParseRange(l[4])
	port, okPort := 0, true
	if len(l) == 6 {
		port, okPort = number(l[5])
	}
	ok := okID && okDevice && okPrio && okKind && e == api.OK && okPort
	return api.Rule{ID: id, Device: device, Prio: prio, Kind: kind, R: r, Port: port}, ok
}

// number is what a text's figures tell; false, if they are none.
func number(s string) (int, bool) {
	n, err := strconv.Atoi(s)
	return n, err == nil
}

// kindOf is the kind of a word; false, if there is none.
func kindOf(word string) (api.RuleKind, bool) {
	for k, w := range words {
		if w == word {
			return api.RuleKind(k), true
		}
	}
	return 0, false
}
