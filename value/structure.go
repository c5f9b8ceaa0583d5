package value

import (
	"slices"
	"strings"

	"mullion/api"
	"mullion/own"
	"mullion/term"
)

// structure: functions whose names rise. It lies on the memory of what was
// handed in.
type structure []api.Fun

func read(m []api.Fun) structure {
	if !Is(m) {
		return nil
	}
	return m
}

// place gives where the function of that name is; else where it would be.
func (m structure) place(name string) (int, bool) {
	return slices.BinarySearchFunc(m, name, func(f api.Fun, name string) int { return strings.Compare(f.Sig.Name, name) })
}

// of gives what m says of s for however many values.
func (m structure) of(s api.Sig, values ...api.Value) api.Value {
	at, known := m.place(s.Name)
	if !known || !sameSig(m[at].Sig, s) {
		return api.Value{Sort: s.Ret}
	}
	for _, row := range m[at].Rows {
		if slices.EqualFunc(row.Args, values, Same) {
			return own.Value(row.V)
		}
	}
	return own.Value(m[at].Else)
}

// worth takes any t.
func (m structure) worth(t api.Term) api.Value {
	if !term.Is(t) {
		return truth(false)
	}
	return m.term(t)
}

func (m structure) term(t api.Term) api.Value {
	switch t.Op {
	case api.ONum:
		return api.Value{Sort: api.SInt, N: own.Int(t.N)}
	case api.OTrue, api.OFalse:
		return truth(t.Op == api.OTrue)
	}
	kids := m.terms(t.Kids...)
	switch {
	case t.Op == api.OApp:
		return m.of(api.Sig{Name: t.Name, Args: sorts(kids...), Ret: t.Sort}, kids...)
	case t.Op == api.OIte:
		return chosen(kids...)
	case t.Sort == api.SInt:
		return api.Value{Sort: api.SInt, N: reckoned(t.Op, numbers(kids...)...)}
	}
	return truth(told(t.Op, kids...))
}

func (m structure) terms(terms ...api.Term) []api.Value {
	var out []api.Value
	for _, t := range terms {
		out = append(out, m.term(t))
	}
	return out
}

func sameSig(a, b api.Sig) bool {
	return a.Name == b.Name && slices.Equal(a.Args, b.Args) && a.Ret == b.Ret
}

func sorts(all ...api.Value) []int {
	var out []int
	for _, v := range all {
		out = append(out, v.Sort)
	}
	return out
}
