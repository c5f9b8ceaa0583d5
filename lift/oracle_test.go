package lift_test

import (
	"slices"
	"strconv"

	"mullion/api"
	"mullion/value"
)

// The chapter's words, one by one: terms are put together by hand, and only too
// many nodes are no term.

// reading is what has been made so far.
type reading struct {
	next  int
	held  []api.Term
	names []string
	means []api.Term
}

func (r *reading) lift(t api.Term) api.Term {
	out := t
	out.Kids = nil
	for _, kid := range t.Kids {
		out.Kids = append(out.Kids, r.lift(kid))
	}
	if t.Op != api.OAbs && !(t.Op == api.OIte && t.Sort == api.SInt) {
		return out
	}
	v := fresh(max(r.next, 0))
	r.next++
	r.names = append(r.names, v.Name)
	r.means = append(r.means, out)
	if t.Op == api.OAbs {
		a := out.Kids[0]
		r.held = append(r.held, or(lt(a, num(0)), eq(v, a)), or(ge(a, num(0)), eq(v, sub(a))))
	} else {
		c, a, b := out.Kids[0], out.Kids[1], out.Kids[2]
		r.held = append(r.held, or(not(c), eq(v, a)), or(c, eq(v, b)))
	}
	return v
}

// do gives what Do is to answer of a term, and how the constants are meant.
func do(t api.Term, next int) (api.Term, reading) {
	r := reading{next: next}
	out := r.lift(t)
	for _, one := range r.held {
		if size(one) > 400 {
			return t, reading{next: next}
		}
	}
	return out, r
}

// over gives what Over is to answer of a term and a structure.
func over(t api.Term, m []api.Fun, next int) []api.Fun {
	_, r := do(t, next)
	for i, name := range r.names {
		m = put(m, name, value.Eval(r.means[i], m))
	}
	return m
}

// put gives m with a constant in the place of whatever has its name.
func put(m []api.Fun, name string, v api.Value) []api.Fun {
	var out []api.Fun
	for _, f := range m {
		if f.Sig.Name < name {
			out = append(out, f)
		}
	}
	out = append(out, constant(name, v))
	for _, f := range m {
		if f.Sig.Name > name {
			out = append(out, f)
		}
	}
	return out
}

func size(t api.Term) int {
	n := 1
	for _, kid := range t.Kids {
		n += size(kid)
	}
	return n
}

// plain tells whether nothing is to be lifted.
func plain(t api.Term) bool {
	return t.Op != api.OAbs && (t.Op != api.OIte || t.Sort != api.SInt) && !slices.ContainsFunc(t.Kids, func(kid api.Term) bool { return !plain(kid) })
}

// apart tells whether no name in the terms is the constant of a number from next
// on.
func apart(next int, terms ...api.Term) bool {
	for _, t := range terms {
		if len(t.Name) > 1 && t.Name[0] == '!' {
			if n, err := strconv.Atoi(t.Name[1:]); err == nil && n >= next {
				return false
			}
		}
		if !apart(next, t.Kids...) {
			return false
		}
	}
	return true
}
