package digest

import "strings"

const mostAddress = 60

// isAddress tells whether a mail may be sent there. A name has no @, so only one stands between both; each has a byte, so there are at least 3.
func isAddress(s string) bool {
	user, host, _ := strings.Cut(s, "@")
	return isName(user) && isName(host) && len(s) <= mostAddress
}

func isName(s string) bool {
	for _, c := range []byte(s) {
		if !mayBeInName(c) {
			return false
		}
	}
	return s != ""
}

func mayBeInName(c byte) bool {
	switch c {
	case '.', '-', '_', '+':
		return true
	}
	return c >= 'a' && c <= 'z' || c >= 'A' && c <= 'Z' || c >= '0' && c <= '9'
}
