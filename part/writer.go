package part

import (
	"mailcoach/api"
	"mailcoach/head"
)

// writer is what is joined so far, and the boundary.
type writer struct {
	made     []byte
	boundary string
}

// part writes a body, which is coded, with what stands ahead of it.
func (w *writer) part(kind string, code []byte) {
	w.write(dashes + w.boundary + lineEnd)
	lines, _ := head.All(headersOf(kind)) // a kind is plain, and short: no header can be wrong
	w.made = append(w.made, lines...)
	w.made = append(w.made, code...)
	w.write(lineEnd)
}

func (w *writer) end() { w.write(dashes + w.boundary + dashes + lineEnd) }

func (w *writer) write(s string) { w.made = append(w.made, s...) }

func headersOf(kind string) []api.Header {
	return []api.Header{
		{Name: "Content-Type", Text: kind},
		{Name: "Content-Transfer-Encoding", Text: "quoted-printable"},
	}
}

// pairs hands on each kind with its body.
func pairs(kinds []string, codes [][]byte, hand func(kind string, code []byte)) {
	for i, kind := range kinds {
		hand(kind, codes[i])
	}
}
