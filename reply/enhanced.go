package reply

import (
	"strconv"
	"strings"

	"mailcoach/api"
)

const (
	between    = "." // the numbers of an enhanced code
	mostNumber = 999
	asksMore   = 3 // what a code begins with that only asks for more: it is never enhanced
)

// enhanced is the enhanced code of an answer that has a line; noughts, if there is none.
func enhanced(x api.Reply) [3]int {
	word, _, _ := strings.Cut(x.Lines[len(x.Lines)-1], " ")
	var code, none [3]int
	parts := strings.Split(word, between)
	if len(parts) != len(code) {
		return none
	}
	for i, part := range parts {
		n, ok := number(part)
		if !ok {
			return none
		}
		code[i] = n
	}
	if code[0] != x.Code/100 || code[0] == asksMore {
		return none
	}
	return code
}

// number is a number of one to three digits. It counts only if it would be written just so: without a sign, and without 0 ahead.
func number(s string) (int, bool) {
	n, _ := strconv.Atoi(s) // of what is none: 0, or one that is too great
	if n < 0 || n > mostNumber || strconv.Itoa(n) != s {
		return 0, false
	}
	return n, true
}
