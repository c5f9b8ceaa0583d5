package term

import (
	"strings"

	"mullion/api"
)

// made gives a term of that head (what it has beside its kids) and however many
// kids, all of it in memory of its own: kids that share memory share none there.
func made(head api.Term, kids ...api.Term) api.Term {
	out := api.Term{Op: head.Op, N: head.N, Name: strings.Clone(head.Name), Sort: head.Sort}
	out.N.Mag = append([]uint32(nil), head.N.Mag...)
	out.Kids = append([]api.Term(nil), kids...)
	for i, kid := range kids {
		out.Kids[i] = made(kid, kid.Kids...)
	}
	return out
}

// bounded makes no term of more than MaxNodes nodes: ErrLarge.
func bounded(head api.Term, kids ...api.Term) (api.Term, api.Errno) {
	if counted(1, kids...) > api.MaxNodes {
		return api.Term{}, api.ErrLarge
	}
	return made(head, kids...), api.OK
}

// counted gives n and how many nodes the terms have. It stops at MaxNodes + 1,
// however many more there are.
func counted(n int, terms ...api.Term) int {
	for _, t := range terms {
		if n > api.MaxNodes {
			break
		}
		n = counted(n+1, t.Kids...)
	}
	return n
}

func sorts(terms ...api.Term) []int {
	var out []int
	for _, t := range terms {
		out = append(out, t.Sort)
	}
	return out
}
