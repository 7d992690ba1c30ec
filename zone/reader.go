package zone

import (
	"strings"

	"mailcoach/api"
)

// reader takes a text from its beginning on: left is what has not been taken. No step of it tells a fault: what it makes of a text out of form is written otherwise, and Parse tells it by that.
type reader struct{ left string }

func read(s string) api.Zone {
	r := &reader{left: s}
	z := api.Zone{Std: r.name()}
	z.Off = -r.time()
	if r.left == "" {
		return z
	}
	z.Has = true
	z.Dst = r.name()
	z.Ahead = z.Off + summer
	if !strings.HasPrefix(r.left, ",") {
		z.Ahead = -r.time()
	}
	z.From = r.rule()
	z.To = r.rule()
	return z
}

func (r *reader) name() string {
	if !r.skip("<") {
		return r.take(isLetter)
	}
	name := r.take(isNameByte)
	r.skip(">")
	return name
}

func (r *reader) time() int {
	below := r.skip("-")
	seconds := r.number() * secondsOfHour
	if r.skip(":") {
		seconds += r.number() * secondsOfMinute
	}
	if r.skip(":") {
		seconds += r.number()
	}
	if below {
		return -seconds
	}
	return seconds
}

func (r *reader) rule() api.Rule {
	rule := api.Rule{Kind: api.Zero, At: usualAt}
	r.skip(",")
	switch {
	case r.skip("J"):
		rule.Kind = api.Julian
	case r.skip("M"):
		rule.Kind = api.Nth
		rule.Month = r.number()
		r.skip(".")
		rule.Week = r.number()
		r.skip(".")
	}
	rule.Day = r.number()
	if r.skip("/") {
		rule.At = r.time()
	}
	return rule
}

// number takes all digits there are. Too many of them wrap around, but no number that may be is written with so many.
func (r *reader) number() int {
	n := 0
	for _, digit := range []byte(r.take(isDigit)) {
		n = n*10 + int(digit-'0')
	}
	return n
}

// take answers a copy, so that no zone holds on to the text that it was read from.
func (r *reader) take(fits func(byte) bool) string {
	n := prefix(r.left, fits)
	taken := []byte(r.left[:n])
	r.left = r.left[n:]
	return string(taken)
}

func (r *reader) skip(sign string) bool {
	left, ok := strings.CutPrefix(r.left, sign)
	r.left = left
	return ok
}
