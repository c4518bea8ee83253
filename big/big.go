// Package big: numbers of any length. See doc/01-big.md.
package big

import (
	"strings"

	"thunk/api"
)

// Right tells whether s is a number's text.
func Right(s string) bool {
	digits := strings.TrimPrefix(s, "-")
	if len(digits) == 0 || len(digits) > api.MaxDigits {
		return false
	}
	for i := range len(digits) {
		if digits[i] < '0' || digits[i] > '9' {
			return false
		}
	}
	return digits[0] != '0' || s == "0"
}

// Add is a and b together; false, if that has too many digits.
func Add(a, b string) (string, bool) {
	x, y, is := both(a, b)
	if !is {
		return "", false
	}
	return x.plus(y).text()
}

// Sub is what is left of a without b; false, if that has too many digits.
func Sub(a, b string) (string, bool) {
	x, y, is := both(a, b)
	if !is {
		return "", false
	}
	return x.plus(number{!y.below, y.size}).text()
}

// Mul is a times b; false, if that has too many digits.
func Mul(a, b string) (string, bool) {
	x, y, is := both(a, b)
	if !is {
		return "", false
	}
	return number{x.below != y.below, product(x.size, y.size)}.text()
}

// Quo is the quotient, rounded towards 0, and what is left, which is below 0 where a is; false, if b is 0.
func Quo(a, b string) (q, r string, is bool) {
	x, y, is := both(a, b)
	if !is || y.size == (limbs{}) {
		return "", "", false
	}
	times, left := divided(x.size, y.size)
	q, _ = number{x.below != y.below, times}.text()
	r, _ = number{x.below, left}.text()
	return q, r, true
}

// Cmp is -1, 0 or 1: a is less than b, as great, or greater.
func Cmp(a, b string) int {
	x, y, is := both(a, b)
	if !is {
		return 0
	}
	return x.compare(y)
}
