package head

import (
	"iter"
	"strings"
	"unicode/utf8"

	"mailcoach/api"
	"mailcoach/b64"
)

const (
	mark     = "=?" // what begins so may be taken for a coded word
	opens    = "=?utf-8?B?"
	closes   = "?="
	partSize = 45 // bytes that a coded word is made of
)

// Plain tells whether a text may stand in a header as it is.
func Plain(s string) bool {
	for _, c := range []byte(s) {
		if c < ' ' || c > '~' {
			return false
		}
	}
	for word := range strings.SplitSeq(s, blank) {
		if word == "" || strings.Contains(word, mark) {
			return false
		}
	}
	return true
}

// words tells the words of a text, one by one.
func words(s string) iter.Seq[string] {
	if Plain(s) {
		return strings.SplitSeq(s, blank)
	}
	return codedWords(s)
}

// codedWords tells a text's parts, coded.
func codedWords(s string) iter.Seq[string] {
	return func(yield func(word string) bool) {
		for rest := s; rest != ""; {
			size := sizeOfPart(rest)
			if !yield(opens + b64.Raw([]byte(rest[:size])) + closes) {
				return
			}
			rest = rest[size:]
		}
	}
}

// sizeOfPart is how many bytes of a text its first part has. A sign of more bytes than one is not torn apart, for each word is decoded alone; in bytes that are no UTF-8 there may be no place to cut at.
func sizeOfPart(s string) int {
	if len(s) <= partSize {
		return len(s)
	}
	for size := partSize; size > partSize-utf8.UTFMax; size-- {
		if utf8.RuneStart(s[size]) {
			return size
		}
	}
	return partSize
}

// decoded is the text of words that are all coded; other words are the text themselves.
func decoded(s string) string {
	var made []byte
	for word := range strings.SplitSeq(s, blank) {
		raw, opened := strings.CutPrefix(word, opens)
		raw, closed := strings.CutSuffix(raw, closes)
		part, e := b64.Bytes(raw)
		if !opened || !closed || e != api.OK {
			return s
		}
		made = append(made, part...)
	}
	return string(made)
}
