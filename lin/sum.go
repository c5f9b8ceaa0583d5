package lin

import (
	"cmp"
	"slices"

	"mullion/api"
	"mullion/whole"
)

// read answers a form that lies on the memory of l.
func read(l api.Lin) api.Lin {
	if !Is(l) {
		return api.Lin{}
	}
	return l
}

// sum puts all forms together at once, so that many forms need no sums in
// between. What it answers is new memory, of one form also.
func sum(forms ...api.Lin) api.Lin {
	var all []api.Mono
	var k api.Int
	for _, form := range forms {
		all = append(all, form.T...)
		k = whole.Add(k, form.K)
	}
	slices.SortFunc(all, byVariable) // those of one variable may change places: their sum is the same
	return api.Lin{T: together(all), K: k}
}

func byVariable(m, n api.Mono) int { return cmp.Compare(m.V, n.V) }

// together needs those of one variable side by side. Only their sum tells
// whether the variable is still there.
func together(all []api.Mono) []api.Mono {
	var out []api.Mono
	for len(all) > 0 {
		one := api.Mono{V: all[0].V}
		for len(all) > 0 && all[0].V == one.V {
			one.C = whole.Add(one.C, all[0].C)
			all = all[1:]
		}
		if whole.Sign(one.C) != 0 {
			out = append(out, one)
		}
	}
	return out
}

// scaled takes a c that is no integer as 0, as package whole does.
func scaled(a api.Lin, c api.Int) api.Lin {
	if whole.Sign(c) == 0 {
		return api.Lin{}
	}
	out := api.Lin{K: whole.Mul(a.K, c)}
	for _, m := range a.T {
		out.T = append(out.T, api.Mono{V: m.V, C: whole.Mul(m.C, c)})
	}
	return out
}

// place tells where the variable v stands in a's T, and whether it does.
func place(a api.Lin, v int) (int, bool) {
	return slices.BinarySearchFunc(a.T, api.Mono{V: v}, byVariable)
}

func sameMono(m, n api.Mono) bool { return m.V == n.V && whole.Same(m.C, n.C) }
