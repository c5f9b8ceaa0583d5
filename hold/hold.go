// Package hold: terms that are to hold beside another one: what the layers have
// in common that make such terms. It is no layer.
package hold

import (
	"mullion/api"
	"mullion/term"
)

// Terms are to hold. They count for nothing once Refused: term's Make has erred.
type Terms struct {
	All     []api.Term
	Refused bool
}

// Add puts however many behind those that are there.
func (h *Terms) Add(terms ...api.Term) { h.All = append(h.All, terms...) }

// Of gives what op makes of however many kids. Once one was refused it makes none
// any more: nobody is to ask after each one.
func (h *Terms) Of(op int, kids ...api.Term) api.Term {
	if h.Refused {
		return api.Term{}
	}
	out, e := term.Make(op, kids)
	h.Refused = e != api.OK
	return out
}
