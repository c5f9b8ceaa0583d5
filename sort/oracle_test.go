package sort_test

import (
	"maps"
	"slices"

	"mullion/api"
	"mullion/digits"
	"mullion/lex"
	"mullion/term"
	"mullion/tree"
)

// firstTree gives the first tree of a script, nothing where it has none.
func firstTree(s string) api.Tree {
	words, _, _ := lex.Words(s)
	l, _, _ := tree.Read(words)
	if len(l) == 0 {
		return api.Tree{}
	}
	return l[0]
}

// The document's words, one by one, without the program. Each gives what Term is
// to answer of a tree; bound are the names that the lets around it bind.

func meant(t api.Tree, l []api.Sig, bound map[string]api.Term) (api.Term, api.Errno) {
	if t.List {
		return meantList(t, l, bound)
	}
	text := t.Tok.Text
	elder, is := bound[text]
	switch {
	case t.Tok.Kind == api.TKey:
		return api.Term{}, api.ErrForm
	case t.Tok.Kind == api.TNumber && len(text) > 360:
		return api.Term{}, api.ErrLarge
	case t.Tok.Kind == api.TNumber:
		n, _ := digits.Parse(text)
		return api.Term{Op: api.ONum, N: n, Sort: api.SInt}, api.OK
	case text == "true":
		return yes(), api.OK
	case text == "false":
		return no(), api.OK
	case is:
		return elder, api.OK
	}
	s, known := meantSig(text, l)
	if !known {
		return api.Term{}, api.ErrName
	}
	return term.App(s, nil)
}

func meantSig(name string, l []api.Sig) (api.Sig, bool) {
	for _, s := range l {
		if s.Name == name {
			return s, true
		}
	}
	return api.Sig{}, false
}

func meantList(t api.Tree, l []api.Sig, bound map[string]api.Term) (api.Term, api.Errno) {
	if len(t.Kids) == 0 || t.Kids[0].List || t.Kids[0].Tok.Kind != api.TSymbol {
		return api.Term{}, api.ErrForm
	}
	head := t.Kids[0].Tok.Text
	op, isOperator := operators[head]
	_, isBound := bound[head]
	s, isSig := meantSig(head, l)
	switch {
	case head == "let":
		return meantLet(t, l, bound)
	case slices.Contains(others, head):
		return api.Term{}, api.ErrName
	case isBound:
		return api.Term{}, api.ErrForm
	case !isOperator && !isSig:
		return api.Term{}, api.ErrName
	}
	var kids []api.Term
	for _, kid := range t.Kids[1:] {
		one, e := meant(kid, l, bound)
		if e != api.OK {
			return api.Term{}, e
		}
		kids = append(kids, one)
	}
	if isOperator {
		return term.Make(op, kids)
	}
	return term.App(s, kids)
}

func meantLet(t api.Tree, l []api.Sig, bound map[string]api.Term) (api.Term, api.Errno) {
	if len(t.Kids) != 3 || !t.Kids[1].List || len(t.Kids[1].Kids) == 0 {
		return api.Term{}, api.ErrForm
	}
	var names []string
	for _, pair := range t.Kids[1].Kids {
		if !pair.List || len(pair.Kids) != 2 || pair.Kids[0].List || pair.Kids[0].Tok.Kind != api.TSymbol {
			return api.Term{}, api.ErrForm
		}
		names = append(names, pair.Kids[0].Tok.Text)
	}
	for i, name := range names {
		_, isOperator := operators[name]
		if isOperator || name[0] == '!' || slices.Contains(others, name) || slices.Index(names, name) != i {
			return api.Term{}, api.ErrName
		}
	}
	inside := maps.Clone(bound)
	if inside == nil {
		inside = map[string]api.Term{}
	}
	for i, pair := range t.Kids[1].Kids {
		one, e := meant(pair.Kids[1], l, bound)
		if e != api.OK {
			return api.Term{}, e
		}
		inside[names[i]] = one
	}
	return meant(t.Kids[2], l, inside)
}
