package hold_test

import (
	"slices"
	"testing"

	"mullion/api"
	"mullion/hold"
	"mullion/term"
)

func yes() api.Term { return api.Term{Op: api.OTrue, Sort: api.SBool} }

func not(t api.Term) api.Term {
	return api.Term{Op: api.ONot, Sort: api.SBool, Kids: []api.Term{t}}
}

func check(t *testing.T, h hold.Terms, refused bool, want ...api.Term) {
	t.Helper()
	if h.Refused != refused || !slices.EqualFunc(h.All, want, term.Same) {
		t.Errorf("%t, %v, not %t, %v", h.Refused, h.All, refused, want)
	}
}

func TestAdd(t *testing.T) {
	var h hold.Terms
	check(t, h, false)
	h.Add()
	check(t, h, false)
	h.Add(yes(), not(yes()))
	h.Add(yes())
	check(t, h, false, yes(), not(yes()), yes())
}

func TestOf(t *testing.T) {
	var h hold.Terms
	h.Add(h.Of(api.ONot, yes()), h.Of(api.OOr, yes(), h.Of(api.ONot, h.Of(api.ONot, yes()))))
	check(t, h, false, not(yes()), api.Term{Op: api.OOr, Sort: api.SBool, Kids: []api.Term{yes(), not(not(yes()))}})
}

// TestRefused: what would err isn't made, nor is anything behind it.
func TestRefused(t *testing.T) {
	for _, c := range []struct {
		op   int
		kids []api.Term
	}{{op: 99}, {op: api.OTrue}, {op: api.ONot}, {api.ONot, []api.Term{{}}}, {api.OAbs, []api.Term{yes()}}, {api.OAnd, slices.Repeat([]api.Term{yes()}, api.MaxNodes)}} {
		var h hold.Terms
		for _, got := range []api.Term{h.Of(c.op, c.kids...), h.Of(api.ONot, yes()), h.Of(c.op, c.kids...), h.Of(api.OOr, yes(), yes())} {
			if !term.Same(got, api.Term{}) {
				t.Errorf("%d: %v", c.op, got)
			}
		}
		check(t, h, true)
	}
}
