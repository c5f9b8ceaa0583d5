package divs_test

import (
	"slices"
	"strconv"

	"mullion/api"
	"mullion/value"
	"mullion/whole"
)

// The chapter's words, one by one: terms are put together by hand, and only too
// many nodes are no term.

// reading is what has been made so far.
type reading struct {
	next    int
	held    []api.Term
	names   [][2]string   // of quotients, and of what is left
	divided [][2]api.Term // what, by what
}

func (r *reading) divs(t api.Term) api.Term {
	out := t
	out.Kids = nil
	for _, kid := range t.Kids {
		out.Kids = append(out.Kids, r.divs(kid))
	}
	if t.Op != api.ODiv && t.Op != api.OMod {
		return out
	}
	a, d, quotient, left := out.Kids[0], out.Kids[1], fresh(max(r.next, 0)), fresh(max(r.next+1, 0))
	r.next += 2
	r.names = append(r.names, [2]string{quotient.Name, left.Name})
	r.divided = append(r.divided, [2]api.Term{a, d})
	r.held = append(r.held, eq(a, add(mul(d, quotient), left)), le(num(0), left), lt(left, size(d)))
	if t.Op == api.ODiv {
		return quotient
	}
	return left
}

// size gives the absolute value of a number, or of a number's negative.
func size(d api.Term) api.Term {
	if d.Op == api.OSub {
		d = d.Kids[0]
	}
	d.N.Neg = false
	return d
}

// do gives what Do is to answer of a term, and how the constants are meant.
func do(t api.Term, next int) (api.Term, reading) {
	r := reading{next: next}
	out := r.divs(t)
	for _, one := range r.held {
		if nodes(one) > 400 {
			return t, reading{next: next}
		}
	}
	return out, r
}

// over gives what Over is to answer of a term and a structure.
func over(t api.Term, m []api.Fun, next int) []api.Fun {
	_, r := do(t, next)
	for i, names := range r.names {
		a, d := r.divided[i][0], r.divided[i][1]
		quotient, left := value.Eval(div(a, d), m), value.Eval(mod(a, d), m)
		m = put(put(m, names[0], quotient), names[1], left)
	}
	return m
}

// put gives m with a constant in the place of whatever has its name.
func put(m []api.Fun, name string, v api.Value) []api.Fun {
	var out []api.Fun
	for _, f := range m {
		if f.Sig.Name < name {
			out = append(out, f)
		}
	}
	out = append(out, constant(name, v))
	for _, f := range m {
		if f.Sig.Name > name {
			out = append(out, f)
		}
	}
	return out
}

// otherwise gives m with the two constants of a division by d as far from what
// they are as d times the one makes up for the other.
func otherwise(m []api.Fun, names [2]string, d api.Term, by int64) []api.Fun {
	quotient, left := worth(m, names[0]), worth(m, names[1])
	quotient = whole.Add(quotient, whole.Of(by))
	left = whole.Sub(left, whole.Mul(whole.Of(by), value.Eval(d, nil).N))
	return put(put(m, names[0], api.Value{Sort: api.SInt, N: quotient}), names[1], api.Value{Sort: api.SInt, N: left})
}

func worth(m []api.Fun, name string) api.Int {
	return value.Of(m, signature(name, api.SInt), nil).N
}

func nodes(t api.Term) int {
	n := 1
	for _, kid := range t.Kids {
		n += nodes(kid)
	}
	return n
}

// plain tells whether there is no division in t.
func plain(t api.Term) bool {
	return t.Op != api.ODiv && t.Op != api.OMod && !slices.ContainsFunc(t.Kids, func(kid api.Term) bool { return !plain(kid) })
}

// apart tells whether no name in the terms is the constant of a number from next
// on.
func apart(next int, terms ...api.Term) bool {
	for _, t := range terms {
		if len(t.Name) > 1 && t.Name[0] == '!' {
			if n, err := strconv.Atoi(t.Name[1:]); err == nil && n >= next {
				return false
			}
		}
		if !apart(next, t.Kids...) {
			return false
		}
	}
	return true
}
