// Package num is layer 1: see shared/doc/01-num.md.
package num

import (
	"cmp"
	"strings"
)

// mostDigits is how many digits 2^63 has: no number has more.
const mostDigits = 19

// Text is n in decimal digits, without a 0 ahead (but 0 itself), with a - ahead, if n is below 0.
func Text(n int) string {
	var row [mostDigits]byte
	at, rest, sign := mostDigits-1, uint64(n), ""
	switch {
	case n < 0:
		// Turned round as unsigned, since 2^63 is no int.
		rest, sign = -rest, "-"
		fallthrough
	default:
		for ; rest > 9; rest /= 10 {
			row[at] = digit(rest % 10)
			at--
		}
		row[at] = digit(rest)
	}
	return sign + string(row[at:])
}

// digit is the digit of a number from 0 to 9.
func digit(n uint64) byte { return '0' + byte(n) }

// Get is the number whose Text is s, and true; 0 and false, if there is none.
func Get(s string) (int, bool) {
	// A text that is no number's makes some number, too, but not one with that text.
	if n := made(s); Text(n) == s {
		return n, true
	}
	return 0, false
}

// made is what the bytes of s make, as if they were a number's text, wrapped round to an int.
func made(s string) int {
	digits, below := strings.CutPrefix(s, "-")
	n := 0
	for i := range len(digits) {
		n = 10*n + int(digits[i]-'0')
	}
	if below {
		return -n
	}
	return n
}

// Compare is -1, 0 or 1, as the number of a is below, equal to, or above that of b; 2, if one of them is none's.
func Compare(a string, b string) int {
	x, is := Get(a)
	y, too := Get(b)
	if !is || !too {
		return 2
	}
	return cmp.Compare(x, y)
}
