package cron

import (
	"slices"
	"strings"

	"mailcoach/api"
)

// fault is what a reader panics with, so that no step of it has to ask the one ahead.
type fault struct{ e api.Errno }

// need ends the reading of a text that is out of form.
func need(ok bool) {
	if !ok {
		panic(fault{api.ErrForm})
	}
}

// read takes a whole text.
func read(s string) (c api.Cron, e api.Errno) {
	defer func() {
		if f, ok := recover().(fault); ok {
			c, e = api.Cron{}, f.e
		}
	}()
	parts := strings.Split(s, between)
	need(len(parts) == api.Fields)
	for i, f := range fields() {
		c.L[i] = f.part(parts[i])
		c.Star[i] = parts[i] == star
	}
	return c, api.OK
}

// part is all numbers of a part's pieces, rising.
func (f field) part(s string) []int {
	var numbers []int
	for _, text := range strings.Split(s, comma) {
		r := &reader{left: text}
		first, last, step := r.piece(f)
		need(r.left == "")
		for n := first; n <= last; n += step {
			numbers = append(numbers, f.counted(n))
		}
	}
	slices.Sort(numbers)
	return slices.Compact(numbers)
}

// reader takes a piece from its beginning on: left is what has not been taken.
type reader struct{ left string }

// piece takes a piece's first number, its last one, and its step.
func (r *reader) piece(f field) (first, last, step int) {
	if r.skip(star) {
		return f.first, f.last, r.step()
	}
	first = r.number(f)
	if !r.skip("-") {
		return first, first, 1
	}
	last = r.number(f)
	need(first <= last)
	return first, last, r.step()
}

func (r *reader) step() int {
	if !r.skip("/") {
		return 1
	}
	n := r.digits()
	need(n > 0)
	return n
}

// number takes a field's number, by its name or by its digits.
func (r *reader) number(f field) int {
	if n, ok := r.name(f); ok {
		return n
	}
	n := r.digits()
	need(n >= f.first && n <= f.written)
	return n
}

func (r *reader) name(f field) (int, bool) {
	if len(r.left) < lettersOfName {
		return 0, false
	}
	// Signs beside a to z and A to Z that become one of these letters have more bytes than one: with them three bytes never become a name.
	n, ok := f.named(strings.ToLower(r.left[:lettersOfName]))
	if ok {
		r.left = r.left[lettersOfName:]
	}
	return n, ok
}

// digits takes one or two of them.
func (r *reader) digits() int {
	need(r.hasDigit())
	n := r.digit()
	if r.hasDigit() {
		n = n*10 + r.digit()
	}
	return n
}

func (r *reader) hasDigit() bool {
	return r.left != "" && r.left[0] >= '0' && r.left[0] <= '9'
}

// digit asks nothing: there must be one.
func (r *reader) digit() int {
	n := int(r.left[0] - '0')
	r.left = r.left[1:]
	return n
}

func (r *reader) skip(sign string) bool {
	left, ok := strings.CutPrefix(r.left, sign)
	r.left = left
	return ok
}
