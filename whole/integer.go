package whole

import (
	"cmp"

	"mullion/api"
	"mullion/nat"
)

// integer is what an api.Int counts as: a sign, which answers for the integer
// itself, and how far it is from 0. An integer that was read lies on the memory
// of its api.Int; what is reckoned from it is new, since nat answers new rows.
type integer struct {
	sign
	size []uint32
}

func read(a api.Int) integer {
	switch {
	case !Is(a):
		return integer{}
	case a.Neg:
		return signed(sign{-1}, a.Mag)
	}
	return signed(sign{1}, a.Mag)
}

// signed takes the sign away from 0, which has none.
func signed(s sign, size []uint32) integer {
	if len(size) == 0 {
		return integer{}
	}
	return integer{s, size}
}

func (a integer) told() api.Int { return api.Int{Neg: a.below(), Mag: a.size} }

func (a integer) negated() integer { return integer{a.opposite(), a.size} }

func (a integer) absolute() integer { return integer{a.times(a.sign), a.size} }

func (a integer) compare(b integer) int {
	if a.side != b.side {
		return cmp.Compare(a.side, b.side)
	}
	return a.side * nat.Cmp(a.size, b.size)
}

func (a integer) plus(b integer) integer {
	if !a.against(b.sign) {
		return signed(a.or(b.sign), nat.Add(a.size, b.size))
	}
	if nat.Cmp(a.size, b.size) < 0 {
		a, b = b, a
	}
	return signed(a.sign, nat.Sub(a.size, b.size))
}

// floor needs no case of its own for a b of 0: nat.Div leaves all of a then,
// and nothing is against 0.
func (a integer) floor(b integer) (quotient, left integer) {
	times, rest := nat.Div(a.size, b.size)
	quotient, left = signed(a.times(b.sign), times), signed(a.sign, rest)
	if left.against(b.sign) {
		return quotient.plus(read(Of(-1))), left.plus(b)
	}
	return quotient, left
}
