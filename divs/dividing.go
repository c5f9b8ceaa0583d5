package divs

import (
	"mullion/api"
	"mullion/hold"
	"mullion/lift"
	"mullion/own"
	"mullion/term"
	"mullion/value"
	"mullion/whole"
)

// dividing is what has been made on the way through a term.
type dividing struct {
	hold.Terms
	next      int
	divisions []division
}

type division struct {
	of, by         api.Term // with the constants ahead of it in there
	quotient, left string   // the names of its constants
}

// divided gives what becomes of t, and what is made on the way: nothing, where t
// stays as it is.
func divided(t api.Term, next int) (api.Term, dividing) {
	d := dividing{next: next}
	if term.Is(t) {
		if out := d.term(t); !d.Refused {
			return own.Term(out), d
		}
	}
	return own.Term(t), dividing{next: next}
}

// term gives t without divisions. It may lie on t's memory.
func (d *dividing) term(t api.Term) api.Term {
	t.Kids = d.terms(t.Kids...)
	if !divides(t) {
		return t
	}
	quotient, left := d.constants(t.Kids[0], t.Kids[1])
	if t.Op == api.ODiv {
		return quotient
	}
	return left
}

func (d *dividing) terms(all ...api.Term) []api.Term {
	var out []api.Term
	for _, t := range all {
		out = append(out, d.term(t))
	}
	return out
}

// constants gives the two new ones of a division, of which holds what is to.
func (d *dividing) constants(of, by api.Term) (quotient, left api.Term) {
	quotient, left = lift.Fresh(d.next, api.SInt), lift.Fresh(d.next+1, api.SInt)
	d.next += 2
	d.divisions = append(d.divisions, division{of: of, by: by, quotient: quotient.Name, left: left.Name})
	size := whole.Abs(value.Eval(by, nil).N) // by is a number: no structure says what it is worth
	d.Add(
		d.Of(api.OEq, of, d.Of(api.OAdd, d.Of(api.OMul, by, quotient), left)),
		d.Of(api.OLe, term.Num(whole.Of(0)), left),
		d.Of(api.OLt, left, term.Num(size)),
	)
	return quotient, left
}

func divides(t api.Term) bool { return t.Op == api.ODiv || t.Op == api.OMod }

func pure(terms ...api.Term) bool {
	for _, t := range terms {
		if divides(t) || !pure(t.Kids...) {
			return false
		}
	}
	return true
}
