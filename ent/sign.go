package ent

import (
	"strconv"
	"strings"
	"unicode/utf8"
)

const (
	longest = 10 // bytes of an entity's body

	// There are no signs of the numbers that UTF-16 writes its halves with, nor of two more.
	lastLow    = 55295
	firstHigh  = 57344
	lastHigh   = 65533
	firstAbove = 65536
)

// isSign tells whether there is a sign of a number.
func isSign(n int) bool {
	switch {
	case n == '\t', n == '\n', n == '\r',
		n >= ' ' && n <= lastLow,
		n >= firstHigh && n <= lastHigh,
		n >= firstAbove && n <= utf8.MaxRune:
		return true
	}
	return false
}

// decoded is a text with signs in the place of its entities; false: not each & of it begins one that has a sign, and some stay.
func decoded(s string) (string, bool) {
	var out strings.Builder
	written, all := 0, true
	// What stays is cut out of the text, not put together of runes: so bytes that are none stay as they are.
	for i, r := range s {
		if r != '&' {
			continue
		}
		start := i + len("&")
		body, sign, ok := entity(s[start:])
		if !ok {
			all = false
			continue
		}
		out.WriteString(s[written:i])
		out.WriteString(sign)
		written = start + len(body) + len(";")
	}
	out.WriteString(s[written:])
	return out.String(), all
}

// entity is, of an entity whose & a text stands behind, the body and the sign; false: there is none, or it has no sign.
func entity(s string) (body, sign string, ok bool) {
	body, ok = bodyOf(s)
	if !ok {
		return "", "", false
	}
	sign, ok = signOf(body)
	return body, sign, ok
}

// bodyOf looks no farther than a body may go, so that a text of many & takes no longer than another one.
func bodyOf(s string) (string, bool) {
	for i, r := range s {
		switch {
		case i > longest || r == '&':
			return "", false
		case r == ';':
			return s[:i], i > 0
		}
	}
	return "", false
}

func signOf(body string) (string, bool) {
	if n, ok := named()[body]; ok {
		return Rune(n)
	}
	if digits, ok := strings.CutPrefix(body, "#x"); ok {
		return numbered(digits, 16)
	}
	if digits, ok := strings.CutPrefix(body, "#"); ok {
		return numbered(digits, 10)
	}
	return "", false
}

// named is what the bodies that are names mean.
func named() map[string]int {
	return map[string]int{"amp": '&', "lt": '<', "gt": '>', "quot": '"', "apos": '\''}
}

func numbered(digits string, base int) (string, bool) {
	n, err := strconv.ParseUint(digits, base, 32)
	if err != nil {
		return "", false
	}
	return Rune(int(n))
}
