package plain

import "strings"

// mark is one of a text: its name, and whether a / stands ahead of that.
type mark struct {
	name   string
	closes bool
}

// pieces are what stands between a text's breaks, without marks and what they hide.
func pieces(s string) []string {
	breaks := breaking()
	var all []string
	var piece strings.Builder
further:
	ahead, m, behind, found := cutMark(s)
	piece.WriteString(ahead)
	if !found {
		return append(all, piece.String())
	}
	if _, is := breaks[m.name]; is {
		all = append(all, piece.String())
		piece.Reset()
	}
	// What stays on both sides of a mark is not read once more, so it never makes a mark together.
	s = m.skipHidden(behind)
	goto further
}

// breaking are the names of marks that break.
func breaking() map[string]struct{} {
	return map[string]struct{}{
		"p": {}, "br": {}, "div": {}, "li": {}, "tr": {}, "ul": {}, "ol": {}, "table": {},
		"h1": {}, "h2": {}, "h3": {}, "h4": {}, "h5": {}, "h6": {},
	}
}

// cutMark is a text's first mark, what stands ahead of it, and what stands behind; if there is none, all stands ahead.
func cutMark(s string) (ahead string, m mark, behind string, found bool) {
	for i := range len(s) {
		if s[i] == '<' && opensMark(s[i+1:]) {
			body, rest, _ := strings.Cut(s[i+1:], ">")
			return s[:i], markOf(body), rest, true
		}
	}
	return s, mark{}, "", false
}

// opensMark asks what stands behind a <.
func opensMark(s string) bool {
	return s != "" && (isLetter(s[0]) || s[0] == '/' || s[0] == '!')
}

// markOf is the mark with that between its < and its >.
func markOf(body string) mark {
	body, closes := strings.CutPrefix(body, "/")
	size := 0
	for size < len(body) && (isLetter(body[size]) || isDigit(body[size])) {
		size++
	}
	return mark{strings.ToLower(body[:size]), closes}
}

func (m mark) hides() bool {
	return !m.closes && (m.name == "script" || m.name == "style")
}

// skipHidden is what follows in a text, of which the beginning is hidden, if the mark ahead of it hides. It begins with the mark that ends what is hidden.
func (m mark) skipHidden(s string) string {
	if !m.hides() {
		return s
	}
	for i := range len(s) {
		if name, ok := strings.CutPrefix(s[i:], "</"); ok && beginsWith(name, m.name) {
			return s[i:]
		}
	}
	return ""
}

// beginsWith takes letters small or great. Signs beside a to z and A to Z that become one of these have more bytes than one, so of as many bytes they never make a name.
func beginsWith(s, name string) bool {
	return len(s) >= len(name) && strings.ToLower(s[:len(name)]) == name
}

func isLetter(c byte) bool {
	return c >= 'a' && c <= 'z' || c >= 'A' && c <= 'Z'
}

func isDigit(c byte) bool {
	return c >= '0' && c <= '9'
}
