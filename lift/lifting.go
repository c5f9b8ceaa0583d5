package lift

import (
	"mullion/api"
	"mullion/hold"
	"mullion/own"
	"mullion/term"
	"mullion/whole"
)

// lifting is what has been made on the way through a term.
type lifting struct {
	hold.Terms
	next      int
	constants []constant
}

type constant struct {
	name   string
	stands api.Term // what it stands for, with the constants ahead of it in there
}

// lifted gives what becomes of t, and what is made on the way: nothing, where t
// stays as it is.
func lifted(t api.Term, next int) (api.Term, lifting) {
	l := lifting{next: next}
	if term.Is(t) {
		if out := l.term(t); !l.Refused {
			return own.Term(out), l
		}
	}
	return own.Term(t), lifting{next: next}
}

// term gives t without choices. It may lie on t's memory.
func (l *lifting) term(t api.Term) api.Term {
	t.Kids = l.terms(t.Kids...)
	switch {
	case t.Op == api.OAbs:
		return l.size(t)
	case choice(t):
		return l.chosen(t)
	}
	return t
}

func (l *lifting) terms(all ...api.Term) []api.Term {
	var out []api.Term
	for _, t := range all {
		out = append(out, l.term(t))
	}
	return out
}

// chosen gives the constant that stands for t, a choice between numbers.
func (l *lifting) chosen(t api.Term) api.Term {
	v, is, first, second := l.constant(t), t.Kids[0], t.Kids[1], t.Kids[2]
	l.hold(l.Of(api.ONot, is), l.Of(api.OEq, v, first))
	l.hold(is, l.Of(api.OEq, v, second))
	return v
}

// size gives the constant that stands for t, an absolute value.
func (l *lifting) size(t api.Term) api.Term {
	v, n, nought := l.constant(t), t.Kids[0], term.Num(whole.Of(0))
	l.hold(l.Of(api.OLt, n, nought), l.Of(api.OEq, v, n))
	l.hold(l.Of(api.OGe, n, nought), l.Of(api.OEq, v, l.Of(api.OSub, n)))
	return v
}

// constant gives a new one for t.
func (l *lifting) constant(t api.Term) api.Term {
	v := Fresh(l.next, api.SInt)
	l.next++
	l.constants = append(l.constants, constant{name: v.Name, stands: t})
	return v
}

// hold keeps that one of however many is to hold.
func (l *lifting) hold(terms ...api.Term) { l.Add(l.Of(api.OOr, terms...)) }

func choice(t api.Term) bool { return t.Op == api.OIte && t.Sort == api.SInt }

func pure(terms ...api.Term) bool {
	for _, t := range terms {
		if choice(t) || t.Op == api.OAbs || !pure(t.Kids...) {
			return false
		}
	}
	return true
}
