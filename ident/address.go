package ident

import (
	"strings"

	"mailcoach/ent"
)

// web is how addresses of a kind begin, and the port that goes without saying in them.
type web struct{ begin, port string }

var webs = [...]web{{"http://", ":80"}, {"https://", ":443"}}

// cut is what follows the beginning; false: the text begins otherwise.
func (w web) cut(t string) (address string, ok bool) {
	if len(t) < len(w.begin) || lowered(t[:len(w.begin)]) != w.begin {
		return "", false
	}
	return t[len(w.begin):], true
}

func (w web) host(address string) string {
	host := lowered(address[:hostLen(address)])
	for strings.HasSuffix(host, w.port) {
		host = host[:len(host)-len(w.port)]
	}
	return host
}

// rest is what follows the host, but for the place within the document, which makes no other entry.
func rest(address string) string {
	path, _, _ := strings.Cut(address[hostLen(address):], "#")
	path = ent.Trim(path)
	if !strings.HasPrefix(path, "/") {
		return "/" + path
	}
	return path
}

func hostLen(address string) int {
	if i := strings.IndexAny(address, "/?#"); i >= 0 {
		return i
	}
	return len(address)
}

// lowered goes by bytes: by runes, letters beyond A to Z would change too, and so would bytes that are none.
func lowered(s string) string {
	b := []byte(s)
	for i, c := range b {
		if c >= 'A' && c <= 'Z' {
			b[i] = c - 'A' + 'a'
		}
	}
	return string(b)
}
