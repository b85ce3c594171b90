// Package signs has the names and numbers that the texts of several layers share.
package signs

import (
	"strconv"

	"leakresponse/api"
)

// Every reports whether all bytes of a text are as asked for.
func Every(s string, is func(byte) bool) bool {
	for i := range len(s) {
		if !is(s[i]) {
			return false
		}
	}
	return true
}

// IsDigit reports whether a byte is one of 0 to 9.
func IsDigit(c byte) bool { return c >= '0' && c <= '9' }

// IsSmall reports whether a byte is one of a to z.
func IsSmall(c byte) bool { return c >= 'a' && c <= 'z' }

func isName(s string, is func(byte) bool) bool {
	return len(s) >= 1 && len(s) <= api.MaxName && Every(s, is)
}

// Label reports whether a text has from 1 to MaxName bytes, all of them small letters, digits or -.
func Label(s string) bool {
	return isName(s, func(c byte) bool { return IsSmall(c) || IsDigit(c) || c == '-' })
}

// Visible reports whether a text has from 1 to MaxName bytes from 33 to 126, none of them without.
func Visible(s string, without byte) bool {
	return isName(s, func(c byte) bool { return c >= 33 && c <= 126 && c != without })
}

// Number returns the number that a text is in decimal, without leading zeros and signs.
func Number(s string) (int, bool) {
	n, err := strconv.Atoi(s)
	if err != nil || n < 0 || strconv.Itoa(n) != s {
		return 0, false
	}
	return n, true
}
