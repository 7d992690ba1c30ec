package head

import (
	"bytes"
	"strings"

	"mailcoach/api"
)

// read is what some bytes were written of. What they look like may well be written otherwise (folded elsewhere, or coded where that isn't needed), so it counts only if it would be written just so.
func read[T any](b []byte, look func(s string) T, write func(T) ([]byte, api.Errno)) (T, api.Errno) {
	seen := look(string(b))
	written, e := write(seen)
	if e != api.OK || !bytes.Equal(written, b) {
		var none T
		return none, api.ErrForm
	}
	return seen, api.OK
}

// guess is the header that lines look like.
func guess(s string) api.Header {
	return header(strings.TrimSuffix(unfolded(s), lineEnd))
}

// guessAll are the headers that lines, one behind the other, look like.
func guessAll(s string) []api.Header {
	var l []api.Header
	for line := range strings.SplitSeq(unfolded(s), lineEnd) {
		if line != "" {
			l = append(l, header(line))
		}
	}
	return l
}

func unfolded(s string) string { return strings.ReplaceAll(s, fold, blank) }

// header is what one line without its end looks like.
func header(line string) api.Header {
	name, text, _ := strings.Cut(line, colon)
	return api.Header{Name: name, Text: decoded(strings.TrimPrefix(text, blank))}
}

// sizeOfHeaders is how many bytes there are up to the first empty line, and with it; all of them, if there is none. A header has a name, so no empty line stands ahead of the one behind them all.
func sizeOfHeaders(b []byte) int {
	if bytes.HasPrefix(b, []byte(lineEnd)) {
		return len(lineEnd)
	}
	if at := bytes.Index(b, []byte(lineEnd+lineEnd)); at >= 0 {
		return at + len(lineEnd+lineEnd)
	}
	return len(b)
}
