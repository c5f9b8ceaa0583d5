package nat

import "mullion/api"

// longRow: from so many limbs on three products of halves are made sooner
// than one limb by limb.
const longRow = 64

// Mul gives a times b.
func Mul(a, b []uint32) []uint32 { return product(natural(a), natural(b)) }

func product(a, b []uint32) []uint32 {
	if min(len(a), len(b)) < longRow {
		return limbByLimb(a, b)
	}
	return byHalves(a, b)
}

func limbByLimb(a, b []uint32) []uint32 {
	if len(a) == 0 || len(b) == 0 {
		return nil
	}
	out := make([]uint32, len(a)+len(b))
	for i, limb := range b {
		carry := uint64(0) // stays below Base, so that no total is above Base times Base
		for j, other := range a {
			total := uint64(limb)*uint64(other) + uint64(out[i+j]) + carry
			out[i+j] = uint32(total % api.Base)
			carry = total / api.Base
		}
		out[i+len(a)] = uint32(carry)
	}
	return trimmed(out)
}

// byHalves saves one of four products: what the halves give crosswise is in
// the product of their sums, beside low and high.
func byHalves(a, b []uint32) []uint32 {
	half := (max(len(a), len(b)) + 1) / 2
	aLow, aHigh := split(a, half)
	bLow, bHigh := split(b, half)
	low, high := product(aLow, bLow), product(aHigh, bHigh)
	all := product(sum(aLow, aHigh), sum(bLow, bHigh))
	middle := difference(all, sum(low, high))
	return sum(low, raised(middle, half), raised(high, 2*half))
}

func split(a []uint32, place int) (low, high []uint32) {
	if len(a) <= place {
		return a, nil
	}
	return trimmed(a[:place]), a[place:]
}

func raised(a []uint32, places int) []uint32 {
	if len(a) == 0 {
		return nil
	}
	out := make([]uint32, places+len(a))
	copy(out[places:], a)
	return out
}
