package stamp

import (
	"strings"

	"mailcoach/api"
)

// fault is what a reader panics with, so that no step of it has to ask the one ahead.
type fault struct{ e api.Errno }

// reader takes a text from its beginning on: left is what has not been taken.
type reader struct{ left string }

// read takes a whole text: the day and time in it, and by how many seconds its clock is ahead.
func read(s string) (c api.Civil, ahead int, e api.Errno) {
	defer func() {
		if f, ok := recover().(fault); ok {
			c, ahead, e = api.Civil{}, 0, f.e
		}
	}()
	r := &reader{left: s}
	c = r.civil()
	r.fraction()
	ahead = r.ahead()
	if r.left != "" {
		panic(fault{api.ErrForm})
	}
	return c, ahead, api.OK
}

func (r *reader) civil() (c api.Civil) {
	c.Year = r.number(4)
	r.sign("-")
	c.Month = r.number(2)
	r.sign("-")
	c.Day = r.number(2)
	r.sign("Tt")
	c.Hour = r.number(2)
	r.sign(":")
	c.Min = r.number(2)
	r.sign(":")
	c.Sec = r.number(2)
	return c
}

// fraction takes a part of a second, if there is one: it counts for nothing.
func (r *reader) fraction() {
	if !strings.HasPrefix(r.left, ".") {
		return
	}
	r.sign(".")
	r.number(1)
	r.left = strings.TrimLeft(r.left, "0123456789")
}

func (r *reader) ahead() int {
	sign := r.sign("Zz+-")
	if sign == 'Z' || sign == 'z' {
		return 0
	}
	hours := r.number(2)
	r.sign(":")
	minutes := r.number(2)
	if !isTime(hours, minutes, 0) {
		panic(fault{api.ErrForm})
	}
	seconds := hours*secondsOfHour + minutes*secondsOfMinute
	if sign == '-' {
		return -seconds
	}
	return seconds
}

// sign takes one byte, which must be one of those.
func (r *reader) sign(those string) byte {
	if r.left == "" || strings.IndexByte(those, r.left[0]) < 0 {
		panic(fault{api.ErrForm})
	}
	b := r.left[0]
	r.left = r.left[1:]
	return b
}

// number takes just so many digits.
func (r *reader) number(width int) int {
	n := 0
	for range width {
		n = n*10 + int(r.sign("0123456789")-'0')
	}
	return n
}
