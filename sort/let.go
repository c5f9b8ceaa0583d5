package sort

import (
	"slices"

	"mullion/api"
)

// let gives the term that a let tells which has those kids behind its word.
func (s scope) let(kids ...api.Tree) (api.Term, api.Errno) {
	if len(kids) != 2 || !paired(kids[0]) {
		return api.Term{}, api.ErrForm
	}
	names, trees := halves(kids[0].Kids...)
	if !free(names...) {
		return api.Term{}, api.ErrName
	}
	terms, e := s.terms(trees...)
	if e != api.OK {
		return api.Term{}, e
	}
	return s.within(names, terms).term(kids[1])
}

// within gives the scope inside a let that binds those names to those terms.
func (s scope) within(names []string, terms []api.Term) scope {
	inner := scope{bound: slices.Clone(s.bound), sigs: s.sigs}
	for i, name := range names {
		inner.bound = append(inner.bound, binding{name, terms[i]})
	}
	return inner
}

// paired tells whether t is a List of pairs, at least one.
func paired(t api.Tree) bool {
	if len(t.Kids) == 0 {
		return false
	}
	for _, kid := range t.Kids {
		if len(kid.Kids) != 2 || !symbolic(kid.Kids[0]) {
			return false
		}
	}
	return true
}

// halves gives the names of pairs, and their trees.
func halves(pairs ...api.Tree) ([]string, []api.Tree) {
	var names []string
	var trees []api.Tree
	for _, pair := range pairs {
		names = append(names, pair.Kids[0].Tok.Text)
		trees = append(trees, pair.Kids[1])
	}
	return names, trees
}

// free tells whether one let may bind all those names.
func free(names ...string) bool {
	for i, name := range names {
		if Reserved(name) || slices.Contains(names[:i], name) {
			return false
		}
	}
	return true
}
