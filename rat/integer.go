package rat

import (
	"slices"

	"mullion/api"
	"mullion/gcd"
	"mullion/whole"
)

// integer: an api.Int that answers for itself, so that a fraction can embed it.
type integer api.Int

func one() integer { return integer(whole.Of(1)) }

func (a integer) copied() integer { return integer{a.Neg, slices.Clone(a.Mag)} }

func (a integer) sign() int { return whole.Sign(api.Int(a)) }

func (a integer) compare(b integer) int { return whole.Cmp(api.Int(a), api.Int(b)) }

func (a integer) negated() integer { return integer(whole.Neg(api.Int(a))) }

func (a integer) plus(b integer) integer { return integer(whole.Add(api.Int(a), api.Int(b))) }

func (a integer) less(b integer) integer { return integer(whole.Sub(api.Int(a), api.Int(b))) }

func (a integer) times(b integer) integer { return integer(whole.Mul(api.Int(a), api.Int(b))) }

// by rounds down.
func (a integer) by(b integer) integer {
	quotient, _ := whole.Floor(api.Int(a), api.Int(b))
	return integer(quotient)
}

func (a integer) common(b integer) integer { return integer(gcd.Of(api.Int(a), api.Int(b))) }
