package term

import (
	"math"
	"slices"

	"mullion/api"
	"mullion/whole"
)

// rule: of what kids an operator is made, and of which sort it is.
type rule struct {
	least, most int // kids
	first, rest int // the sort of the first kid, that of each other one
	sort        int // the operator's own
}

const (
	many = math.MaxInt // kids: no bound but that of all nodes
	last = 0           // for a sort: the last kid's, whatever it is
)

// rules of the operators from ONot on: those ahead of it are none of Make's.
var rules = [...]rule{
	api.ONot:      {1, 1, api.SBool, api.SBool, api.SBool},
	api.OAnd:      {1, many, api.SBool, api.SBool, api.SBool},
	api.OOr:       {1, many, api.SBool, api.SBool, api.SBool},
	api.OXor:      {2, 2, api.SBool, api.SBool, api.SBool},
	api.OImplies:  {2, 2, api.SBool, api.SBool, api.SBool},
	api.OEq:       {2, 2, last, last, api.SBool},
	api.ODistinct: {1, many, last, last, api.SBool},
	api.OIte:      {3, 3, api.SBool, last, last},
	api.OAdd:      {1, many, api.SInt, api.SInt, api.SInt},
	api.OSub:      {1, many, api.SInt, api.SInt, api.SInt},
	api.OMul:      {2, 2, api.SInt, api.SInt, api.SInt},
	api.ODiv:      {2, 2, api.SInt, api.SInt, api.SInt},
	api.OMod:      {2, 2, api.SInt, api.SInt, api.SInt},
	api.OAbs:      {1, 1, api.SInt, api.SInt, api.SInt},
	api.OLe:       {2, 2, api.SInt, api.SInt, api.SBool},
	api.OLt:       {2, 2, api.SInt, api.SInt, api.SBool},
	api.OGe:       {2, 2, api.SInt, api.SInt, api.SBool},
	api.OGt:       {2, 2, api.SInt, api.SInt, api.SBool},
}

func ruled(op int) bool { return op >= api.ONot && op <= api.OGt }

func (r rule) counts(kids ...api.Term) bool { return r.least <= len(kids) && len(kids) <= r.most }

// sorted needs kids whose number counts.
func (r rule) sorted(kids ...api.Term) bool {
	if kids[0].Sort != meant(r.first, kids...) {
		return false
	}
	rest := meant(r.rest, kids...)
	for _, kid := range kids[1:] {
		if kid.Sort != rest {
			return false
		}
	}
	return true
}

// own needs kids whose number counts.
func (r rule) own(kids ...api.Term) int { return meant(r.sort, kids...) }

// meant gives the sort that a rule means, of at least one kid.
func meant(sort int, kids ...api.Term) int {
	if sort == last {
		return kids[len(kids)-1].Sort
	}
	return sort
}

// linear tells what forbids op of kids whose number counts: ErrLinear of OMul
// without a number, of ODiv and OMod by what is none; ErrZero by 0.
func linear(op int, kids ...api.Term) api.Errno {
	switch {
	case op == api.OMul && !slices.ContainsFunc(kids, number):
		return api.ErrLinear
	case op != api.ODiv && op != api.OMod:
		return api.OK
	case !number(kids[1]):
		return api.ErrLinear
	case whole.Sign(unsigned(kids[1]).N) == 0:
		return api.ErrZero
	}
	return api.OK
}

// number tells whether t is a number, or a number's negative.
func number(t api.Term) bool { return unsigned(t).Op == api.ONum }

// unsigned gives that of which t is the negative; else t itself.
func unsigned(t api.Term) api.Term {
	if t.Op == api.OSub && len(t.Kids) == 1 {
		return t.Kids[0]
	}
	return t
}
