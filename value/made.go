package value

import (
	"strings"

	"mullion/api"
)

// made gives functions in memory of their own: those that share memory share
// none there.
func made(functions ...api.Fun) []api.Fun {
	var out []api.Fun
	for _, f := range functions {
		out = append(out, api.Fun{Sig: signature(f.Sig), Rows: rows(f.Rows...), Else: own(f.Else)})
	}
	return out
}

func signature(s api.Sig) api.Sig {
	return api.Sig{Name: strings.Clone(s.Name), Args: append([]int(nil), s.Args...), Ret: s.Ret}
}

func rows(all ...api.Row) []api.Row {
	var out []api.Row
	for _, row := range all {
		out = append(out, api.Row{Args: owned(row.Args...), V: own(row.V)})
	}
	return out
}

func owned(all ...api.Value) []api.Value {
	var out []api.Value
	for _, v := range all {
		out = append(out, own(v))
	}
	return out
}

// own gives v in memory of its own.
func own(v api.Value) api.Value {
	v.N.Mag = append([]uint32(nil), v.N.Mag...)
	return v
}

func sorts(all ...api.Value) []int {
	var out []int
	for _, v := range all {
		out = append(out, v.Sort)
	}
	return out
}
