package dec

import (
	"math"
	"strings"
)

const (
	base  = 10
	minus = "-"
)

// maxText is how many bytes the longest text of an int64 has, that of -2^63: a
// sign and 19 digits.
const maxText = 20

// belowZero tells n, or -n if n is above 0: below 0 there is room for what every
// number's digits stand for, above it not for those of -2^63.
func belowZero(n int64) int64 {
	if n > 0 {
		return -n
	}
	return n
}

// parts tells whether there is a sign at the beginning of s, and what stands
// behind it.
func parts(s string) (negative bool, rest string) {
	rest, negative = strings.CutPrefix(s, minus)
	return negative, rest
}

// countDigits tells how many digits s begins with.
func countDigits(s string) int {
	for i := range len(s) {
		if s[i] < '0' || s[i] > '9' {
			return i
		}
	}
	return len(s)
}

// reckon tells the number of a number's text, and whether an int64 can be it.
// It stays below 0 till its end, as belowZero does.
func reckon(s string) (n int64, fits bool) {
	negative, digits := parts(s)
	for i := range len(digits) {
		digit := int64(digits[i] - '0')
		// Below 0 a quotient is rounded up: it is the least n for which there
		// is room for this digit behind it.
		if n < (math.MinInt64+digit)/base {
			return 0, false
		}
		n = n*base - digit
	}
	if negative {
		return n, true
	}
	if n == math.MinInt64 {
		return 0, false
	}
	return -n, true
}
