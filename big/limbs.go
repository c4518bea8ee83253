package big

import (
	"math/bits"

	"thunk/api"
)

// A limb is nine digits: the most of which two, multiplied, and a third one fit 64 bits.
const (
	limbDigits = 9
	base       = 1_000_000_000
	half       = (api.MaxDigits + limbDigits - 1) / limbDigits // holds a number's text
)

// limbs are a number's size, the lowest limb first. They have room for a product of two that are read, so that no step overflows and only what comes out is held against MaxDigits.
type limbs [2 * half]uint32

// used is how many limbs there are without the zeros on top.
func (a *limbs) used() int {
	n := len(a)
	for n > 0 && a[n-1] == 0 {
		n--
	}
	return n
}

// window is a piece of the limbs, shared with them. It is cut at its end, so that nothing that works on it comes upon the limbs behind it.
func (a *limbs) window(from, to int) []uint32 {
	return a[from:to:to]
}

// digits is all digits of the limbs in use, with the zeros that the highest one begins with: from the end, as a limb gives its last digit first.
func (a *limbs) digits() string {
	n := a.used()
	text := make([]byte, n*limbDigits)
	at := len(text)
	for _, rest := range a.window(0, n) {
		for range limbDigits {
			at--
			text[at] = byte('0' + rest%10)
			rest /= 10
		}
	}
	return string(text)
}

// less tells whether a's number is less than that of b, which has as many limbs.
func less(a, b []uint32) bool {
	for i := len(a) - 1; i >= 0; i-- {
		if a[i] != b[i] {
			return a[i] < b[i]
		}
	}
	return false
}

// sum is a and b together, both of them half at most.
func sum(a, b limbs) limbs {
	n := max(a.used(), b.used())
	addTimes(a.window(0, n+1), b.window(0, n), 1)
	return a
}

// difference is what is left of a without b, which is no greater.
func difference(a, b limbs) limbs {
	n := a.used()
	takeTimes(a.window(0, n), b.window(0, n), 1)
	return a
}

// product is a times b, both of them half at most.
func product(a, b limbs) limbs {
	var p limbs
	row := b.window(0, b.used())
	for i := range a.used() {
		addTimes(p.window(i, i+len(row)+1), row, a[i])
	}
	return p
}

// divided is how often b, which is not 0, goes into a, and what is left: by hand, from the top down; b is moved along what is left yet.
func divided(a, b limbs) (q, r limbs) {
	r = a
	by := b.window(0, b.used())
	for i := a.used() - len(by); i >= 0; i-- {
		q[i] = takeOften(r.window(i, i+len(by)+1), by)
	}
	return q, r
}

// takeOften takes by off part as often as it goes, and answers how often: one limb says it, as part, which has a limb more than by, is less than base times by. What the highest limbs tell may fall short, so it asks again till by goes no more.
func takeOften(part, by []uint32) uint32 {
	n := len(by)
	often := uint32(0)
	for part[n] > 0 || !less(part[:n], by) {
		k := max(1, atLeast(part, by))
		takeTimes(part, by, k)
		often += k
	}
	return often
}

// atLeast is how often by goes into part, or a few less. It rounds part down and by up to what their highest limbs tell, and so never answers too much, which would have to be given back.
func atLeast(part, by []uint32) uint32 {
	n := len(by)
	if n == 1 {
		return uint32(pair(part[1], part[0]) / uint64(by[0]))
	}
	high, low := bits.Mul64(pair(part[n], part[n-1]), base)
	k, _ := bits.Div64(high, low, pair(by[n-1], by[n-2])+1)
	return uint32(k)
}

// pair is two limbs as one number.
func pair(high, low uint32) uint64 {
	return uint64(high)*base + uint64(low)
}

// addTimes adds row, k times, to at, which has room for it.
func addTimes(at, row []uint32, k uint32) {
	carry := uint64(0)
	for i := range at {
		carry += uint64(at[i])
		if i < len(row) {
			carry += uint64(row[i]) * uint64(k)
		}
		at[i] = uint32(carry % base)
		carry /= base
	}
}

// takeTimes takes row, k times, off at, which is as great at least.
func takeTimes(at, row []uint32, k uint32) {
	borrow := uint64(0)
	for i := range at {
		if i < len(row) {
			borrow += uint64(row[i]) * uint64(k)
		}
		take := uint32(borrow % base)
		borrow /= base
		if at[i] < take {
			at[i] += base
			borrow++
		}
		at[i] -= take
	}
}
