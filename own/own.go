// Package own: what is answered lies in memory of its own: see DOC.md, 'What
// holds everywhere', 3.
//
// What is given comes back as it stands, whatever it is, on lists that share
// memory neither with those that were given nor with one another.
package own

import (
	"strings"

	"mullion/api"
)

// Int gives n.
func Int(n api.Int) api.Int {
	n.Mag = append([]uint32(nil), n.Mag...)
	return n
}

// Term gives t.
func Term(t api.Term) api.Term {
	return api.Term{Op: t.Op, N: Int(t.N), Name: strings.Clone(t.Name), Sort: t.Sort, Kids: Terms(t.Kids...)}
}

// Terms gives all of however many.
func Terms(all ...api.Term) []api.Term {
	var out []api.Term
	for _, t := range all {
		out = append(out, Term(t))
	}
	return out
}

// Value gives v.
func Value(v api.Value) api.Value { return api.Value{Sort: v.Sort, N: Int(v.N)} }

// Values gives all of however many.
func Values(all ...api.Value) []api.Value {
	var out []api.Value
	for _, v := range all {
		out = append(out, Value(v))
	}
	return out
}

// Sig gives s.
func Sig(s api.Sig) api.Sig {
	return api.Sig{Name: strings.Clone(s.Name), Args: append([]int(nil), s.Args...), Ret: s.Ret}
}

// Funs gives all of however many.
func Funs(all ...api.Fun) []api.Fun {
	var out []api.Fun
	for _, f := range all {
		out = append(out, api.Fun{Sig: Sig(f.Sig), Rows: rows(f.Rows...), Else: Value(f.Else)})
	}
	return out
}

func rows(all ...api.Row) []api.Row {
	var out []api.Row
	for _, row := range all {
		out = append(out, api.Row{Args: Values(row.Args...), V: Value(row.V)})
	}
	return out
}
