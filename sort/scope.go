package sort

import (
	"slices"

	"mullion/api"
	"mullion/digits"
	"mullion/term"
)

// scope: what names stand for where a tree lies.
type scope struct {
	bound []binding // by the lets around it, the outermost first
	sigs  []api.Sig
}

type binding struct {
	name string
	to   api.Term
}

// term gives the term that t tells.
func (s scope) term(t api.Tree) (api.Term, api.Errno) {
	switch {
	case t.List:
		return s.list(t.Kids...)
	case t.Tok.Kind == api.TNumber:
		return number(t.Tok.Text)
	case t.Tok.Kind == api.TSymbol:
		return s.symbol(t.Tok.Text)
	}
	return api.Term{}, api.ErrForm
}

// terms gives the terms that trees tell; else the first one's error that has one.
func (s scope) terms(trees ...api.Tree) ([]api.Term, api.Errno) {
	var out []api.Term
	for _, t := range trees {
		one, e := s.term(t)
		if e != api.OK {
			return nil, e
		}
		out = append(out, one)
	}
	return out, api.OK
}

func number(text string) (api.Term, api.Errno) {
	n, e := digits.Parse(text)
	if e != api.OK {
		return api.Term{}, e
	}
	return term.Num(n), api.OK
}

func (s scope) symbol(name string) (api.Term, api.Errno) {
	switch name {
	case yes:
		return term.Bool(true), api.OK
	case no:
		return term.Bool(false), api.OK
	}
	if t, is := s.binds(name); is {
		return t, api.OK
	}
	return s.application(name)
}

// binds gives what the innermost let that binds name binds it to.
func (s scope) binds(name string) (api.Term, bool) {
	for _, one := range slices.Backward(s.bound) {
		if one.name == name {
			return one.to, true
		}
	}
	return api.Term{}, false
}

// list gives the term that a List of those kids tells.
func (s scope) list(kids ...api.Tree) (api.Term, api.Errno) {
	if len(kids) == 0 || !symbolic(kids[0]) {
		return api.Term{}, api.ErrForm
	}
	head, rest := kids[0].Tok.Text, kids[1:]
	if op := operator(head); op != none {
		return s.operation(op, rest...)
	}
	switch {
	case head == binder:
		return s.let(rest...)
	case alone(head): // also where a Sig has that name: it isn't asked for
		return api.Term{}, api.ErrName
	}
	if _, is := s.binds(head); is {
		return api.Term{}, api.ErrForm
	}
	return s.application(head, rest...)
}

// operation gives the operator op of however many kids.
func (s scope) operation(op int, kids ...api.Tree) (api.Term, api.Errno) {
	terms, e := s.terms(kids...)
	if e != api.OK {
		return api.Term{}, e
	}
	return term.Make(op, terms)
}

// application gives what is declared by that name, of however many kids.
func (s scope) application(name string, kids ...api.Tree) (api.Term, api.Errno) {
	at := slices.IndexFunc(s.sigs, func(one api.Sig) bool { return one.Name == name })
	if at < 0 {
		return api.Term{}, api.ErrName
	}
	terms, e := s.terms(kids...)
	if e != api.OK {
		return api.Term{}, e
	}
	return term.App(s.sigs[at], terms)
}

func symbolic(t api.Tree) bool { return t.Tok.Kind == api.TSymbol }
