// Package nat: naturals of any size: see doc/01-nat.md.
//
// A natural is a row of limbs, the lowest first. The exported functions take
// any rows, and count what is no natural as 0; the inner ones trust that they
// are given naturals.
package nat

import (
	"cmp"

	"mullion/api"
)

// Is tells whether a is a natural: each limb below Base, the last one not 0.
func Is(a []uint32) bool {
	for _, limb := range a {
		if limb >= api.Base {
			return false
		}
	}
	return len(a) == 0 || a[len(a)-1] != 0
}

// Of gives n as a natural.
func Of(n uint64) []uint32 {
	out := make([]uint32, 0, 3) // no uint64 has more limbs
	for ; n > 0; n /= api.Base {
		out = append(out, uint32(n%api.Base))
	}
	return out
}

// Even tells whether 2 divides a.
func Even(a []uint32) bool {
	a = natural(a)
	return len(a) == 0 || a[0]%2 == 0 // Base is even: the limbs above don't matter
}

// Cmp answers -1, 0 or 1: a is less than b, the same, more.
func Cmp(a, b []uint32) int { return compare(natural(a), natural(b)) }

// Add gives a and b together.
func Add(a, b []uint32) []uint32 { return sum(natural(a), natural(b)) }

// Sub gives a less b, 0 if b is greater.
func Sub(a, b []uint32) []uint32 {
	a, b = natural(a), natural(b)
	if compare(a, b) <= 0 {
		return nil
	}
	return difference(a, b)
}

func natural(a []uint32) []uint32 {
	if !Is(a) {
		return nil
	}
	return a
}

func trimmed(a []uint32) []uint32 {
	for len(a) > 0 && a[len(a)-1] == 0 {
		a = a[:len(a)-1]
	}
	return a
}

func compare(a, b []uint32) int {
	if len(a) != len(b) {
		return cmp.Compare(len(a), len(b))
	}
	for i := len(a) - 1; i >= 0; i-- {
		if a[i] != b[i] {
			return cmp.Compare(a[i], b[i])
		}
	}
	return 0
}

// sum goes through all rows at once, place by place, so that many rows need
// no sums in between. What is carried fits: it is less than the number of rows.
func sum(rows ...[]uint32) []uint32 {
	longest := 0
	for _, row := range rows {
		longest = max(longest, len(row))
	}
	out := make([]uint32, 0, longest+1)
	carry := uint64(0)
	for i := 0; i < longest || carry > 0; i++ {
		for _, row := range rows {
			if i < len(row) {
				carry += uint64(row[i])
			}
		}
		out = append(out, uint32(carry%api.Base))
		carry /= api.Base
	}
	return out
}

// difference needs an a that isn't less than b.
func difference(a, b []uint32) []uint32 {
	out := make([]uint32, len(a))
	borrow := uint32(0)
	for i, limb := range a {
		take := borrow
		if i < len(b) {
			take += b[i]
		}
		borrow = 0
		if limb < take {
			limb += api.Base
			borrow = 1
		}
		out[i] = limb - take
	}
	return trimmed(out)
}
