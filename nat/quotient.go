package nat

import (
	"math/bits"

	"mullion/api"
)

// Div answers how often b is in a, and what is left; of b 0: 0, a.
func Div(a, b []uint32) ([]uint32, []uint32) {
	a, b = natural(a), natural(b)
	switch {
	case len(b) == 0 || compare(a, b) < 0:
		return nil, append([]uint32(nil), a...)
	case len(b) == 1:
		return byLimb(a, b[0])
	}
	return byRow(a, b)
}

func byLimb(a []uint32, b uint32) (quotient, left []uint32) {
	quotient = make([]uint32, len(a))
	rest := uint64(0)
	for i := len(a) - 1; i >= 0; i-- {
		rest = rest*api.Base + uint64(a[i])
		quotient[i] = uint32(rest / uint64(b))
		rest %= uint64(b)
	}
	return trimmed(quotient), Of(rest)
}

// byRow needs a b of at least two limbs, and an a that isn't shorter.
func byRow(a, b []uint32) (quotient, left []uint32) {
	left = make([]uint32, len(a)+1)
	copy(left, a)
	quotient = make([]uint32, len(left)-len(b))
	for i := len(quotient) - 1; i >= 0; i-- {
		quotient[i] = digit(left[i:i+len(b)+1], b)
	}
	return trimmed(quotient), trimmed(left[:len(b)])
}

// digit takes b from left as often as it is in it: less than Base times, since
// what is left at one place is less than b at the next one.
func digit(left, b []uint32) uint32 {
	times := guess(left, b)
	if takeAway(left, b, times) {
		putBack(left, b)
		times--
	}
	return uint32(times)
}

// guess divides the highest three limbs of left by the highest two of b. That
// is never too little, and at most 1 too much, since those two are at least
// Base; for the same reason Div64 can't overflow.
func guess(left, b []uint32) uint64 {
	l, n := left[len(left)-3:], b[len(b)-2:]
	high, low := bits.Mul64(uint64(l[2]), api.Base*api.Base)
	low, carry := bits.Add64(low, uint64(l[1])*api.Base+uint64(l[0]), 0)
	times, _ := bits.Div64(high+carry, low, uint64(n[1])*api.Base+uint64(n[0]))
	return times
}

// takeAway takes b from left so many times; it tells whether that was too
// often: then what is lacking is borrowed from above left.
func takeAway(left, b []uint32, times uint64) bool {
	carry := uint64(0)
	for i, limb := range b {
		carry += times * uint64(limb)
		left[i], carry = less(left[i], carry)
	}
	left[len(b)], carry = less(left[len(b)], carry)
	return carry > 0
}

// less answers a limb less the lowest limb of take, and what is still to be
// taken from the next place.
func less(limb uint32, take uint64) (uint32, uint64) {
	low, high := uint32(take%api.Base), take/api.Base
	if limb < low {
		return limb + api.Base - low, high + 1
	}
	return limb - low, high
}

// putBack adds b; what is carried beyond left is what takeAway borrowed there.
func putBack(left, b []uint32) {
	carry := uint32(0)
	for i := range left {
		total := left[i] + carry
		if i < len(b) {
			total += b[i]
		}
		left[i], carry = total%api.Base, total/api.Base
	}
}
