package rat

import "mullion/api"

// fraction is what an api.Rat counts as: the integer that it embeds, of so many
// parts of one: above 0, nothing but 1 divides both. What the integer answers
// is of the integer alone; what the parts change has a method here. A fraction
// that was read lies on the memory of its api.Rat; what is reckoned from it is
// new, since package whole answers new integers.
type fraction struct {
	integer
	parts integer
}

func read(a api.Rat) fraction {
	if !Is(a) {
		return fraction{parts: one()}
	}
	return fraction{integer(a.P), integer{Mag: a.Q}}
}

// shortened gives p by q. Of a q of 0 it is 0; q may lie below 0, and what is
// divided by then does so too: the parts come out above 0.
func shortened(p, q integer) fraction {
	divisor := q.common(p)
	switch q.sign() {
	case 0:
		return fraction{parts: one()}
	case -1:
		divisor = divisor.negated()
	}
	return fraction{p.by(divisor), q.by(divisor)}
}

func (a fraction) told() api.Rat { return api.Rat{P: api.Int(a.integer), Q: a.parts.Mag} }

// compare leaves out the multiplying where the signs tell.
func (a fraction) compare(b fraction) int {
	if a.sign() != b.sign() {
		return a.integer.compare(b.integer)
	}
	return a.times(b.parts).compare(b.times(a.parts))
}
