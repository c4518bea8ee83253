package big

import (
	"strings"

	"thunk/api"
)

// number is a whole number. What is read is never a 0 below 0; what is reckoned may be, as its sign is not looked at again before it is written.
type number struct {
	below bool
	size  limbs
}

// both reads two numbers' texts; false, if one is none.
func both(a, b string) (x, y number, is bool) {
	if !Right(a) || !Right(b) {
		return number{}, number{}, false
	}
	return read(a), read(b), true
}

// read cuts a number's text from its end, as the lowest limb stands there.
func read(s string) number {
	digits := strings.TrimPrefix(s, "-")
	x := number{below: len(digits) < len(s)}
	for i := 0; len(digits) > 0; i++ {
		cut := max(0, len(digits)-limbDigits)
		x.size[i] = limb(digits[cut:])
		digits = digits[:cut]
	}
	return x
}

// limb reads the digits of one.
func limb(digits string) uint32 {
	n := uint32(0)
	for i := range len(digits) {
		n = 10*n + uint32(digits[i]-'0')
	}
	return n
}

// text writes a number; false, if it has more digits than a number's text may have.
func (x number) text() (string, bool) {
	digits := strings.TrimLeft(x.size.digits(), "0")
	switch {
	case digits == "":
		return "0", true
	case len(digits) > api.MaxDigits:
		return "", false
	case x.below:
		return "-" + digits, true
	}
	return digits, true
}

// plus adds sizes of one sign; of two, it takes the lesser size off the greater one, whose sign stays.
func (x number) plus(y number) number {
	if x.below == y.below {
		return number{x.below, sum(x.size, y.size)}
	}
	if less(x.size[:], y.size[:]) {
		x, y = y, x
	}
	return number{x.below, difference(x.size, y.size)}
}

// compare asks sizes the other way round where both are below 0.
func (x number) compare(y number) int {
	switch {
	case x.below && !y.below:
		return -1
	case y.below && !x.below:
		return 1
	case x.size == y.size:
		return 0
	case less(x.size[:], y.size[:]) != x.below:
		return -1
	}
	return 1
}
