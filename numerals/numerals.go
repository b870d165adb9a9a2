// Package numerals prints and reads numbers in decimal digits; all layers use it.
package numerals

import (
	"strconv"
	"strings"

	"turnround/api"
	"turnround/check"
)

// Padded returns the digits of a number that is not negative, with leading zeros up to a width.
func Padded(n, width int) string {
	s := strconv.Itoa(n)
	return strings.Repeat("0", max(0, width-len(s))) + s
}

// Fixed returns the number of a string, and whether the string has as many digits as the width, and nothing else.
func Fixed(s string, width int) (int, bool) {
	if len(s) != width {
		return 0, false
	}
	n := 0
	for _, r := range s {
		if !check.IsDigit(r) {
			return 0, false
		}
		n = 10*n + int(r-'0')
	}
	return n, true
}

// Plain returns the number of a string, and whether the string has exactly the digits of a number up to MaxNumber, which has nine of them.
func Plain(s string) (int, bool) {
	n, err := strconv.Atoi(s)
	if err != nil || n < 0 || n > api.MaxNumber || strconv.Itoa(n) != s {
		return 0, false
	}
	return n, true
}
