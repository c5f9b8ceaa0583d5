package term_test

import (
	"slices"

	"mullion/api"
	"mullion/whole"
)

// The document's words, one by one, without the program.

func isSort(n int) bool { return n == api.SBool || n == api.SInt }

func isName(s string) bool {
	for i, b := range []byte(s) {
		digit := b >= '0' && b <= '9'
		letter := b >= 'a' && b <= 'z' || b >= 'A' && b <= 'Z'
		mark := slices.Contains([]byte("~!@$%^&*_-+=<>.?/"), b)
		if !letter && !mark && !(digit && i > 0) {
			return false
		}
	}
	return len(s) >= 1 && len(s) <= 20
}

func isSig(s api.Sig) bool {
	for _, sort := range s.Args {
		if !isSort(sort) {
			return false
		}
	}
	return isName(s.Name) && len(s.Args) <= 3 && isSort(s.Ret)
}

func plainNumber(n api.Int) bool { return !n.Neg && len(n.Mag) == 0 }

// legal tells whether t is a term.
func legal(t api.Term) bool {
	if size(t) > 400 {
		return false
	}
	switch t.Op {
	case api.ONum:
		return whole.Is(t.N) && t.Name == "" && t.Sort == api.SInt && len(t.Kids) == 0
	case api.OTrue, api.OFalse:
		return plainNumber(t.N) && t.Name == "" && t.Sort == api.SBool && len(t.Kids) == 0
	case api.OApp:
		return plainNumber(t.N) && refusedApp(api.Sig{Name: t.Name, Args: sortsOf(t.Kids), Ret: t.Sort}, t.Kids) == api.OK
	}
	return plainNumber(t.N) && t.Name == "" && refused(t.Op, t.Kids) == api.OK && t.Sort == sortOf(t.Op, t.Kids)
}

func allLegal(l []api.Term) bool {
	for _, t := range l {
		if !legal(t) {
			return false
		}
	}
	return true
}

// refusedApp tells what App is to answer.
func refusedApp(s api.Sig, l []api.Term) api.Errno {
	switch {
	case !isSig(s):
		return api.ErrForm
	case len(l) != len(s.Args):
		return api.ErrArgs
	case !allLegal(l):
		return api.ErrForm
	case !slices.Equal(sortsOf(l), s.Args):
		return api.ErrSort
	case size(api.Term{Kids: l}) > 400:
		return api.ErrLarge
	}
	return api.OK
}

// refused tells what Make is to answer.
func refused(op int, l []api.Term) api.Errno {
	switch {
	case !slices.Contains(operators, op):
		return api.ErrForm
	case !argsOf(op, len(l)):
		return api.ErrArgs
	case !allLegal(l):
		return api.ErrForm
	case !sortsFit(op, sortsOf(l)):
		return api.ErrSort
	case op == api.OMul && !isNumber(l[0]) && !isNumber(l[1]):
		return api.ErrLinear
	case (op == api.ODiv || op == api.OMod) && !isNumber(l[1]):
		return api.ErrLinear
	case (op == api.ODiv || op == api.OMod) && isNought(l[1]):
		return api.ErrZero
	case size(api.Term{Kids: l}) > 400:
		return api.ErrLarge
	}
	return api.OK
}

func argsOf(op, n int) bool {
	switch op {
	case api.ONot, api.OAbs:
		return n == 1
	case api.OMul, api.ODiv, api.OMod, api.OLe, api.OLt, api.OGe, api.OGt, api.OImplies, api.OEq, api.OXor:
		return n == 2
	case api.OIte:
		return n == 3
	}
	return n >= 1
}

// sortsFit needs as many sorts as op has kids.
func sortsFit(op int, sorts []int) bool {
	switch op {
	case api.ONot, api.OAnd, api.OOr, api.OXor, api.OImplies:
		return onlyOf(sorts, api.SBool)
	case api.OEq, api.ODistinct:
		return onlyOf(sorts, sorts[0])
	case api.OIte:
		return sorts[0] == api.SBool && sorts[1] == sorts[2]
	}
	return onlyOf(sorts, api.SInt)
}

func onlyOf(sorts []int, sort int) bool {
	return !slices.ContainsFunc(sorts, func(s int) bool { return s != sort })
}

func isNumber(t api.Term) bool {
	negative := t.Op == api.OSub && len(t.Kids) == 1 && t.Kids[0].Op == api.ONum
	return t.Op == api.ONum || negative
}

// isNought needs a number.
func isNought(t api.Term) bool {
	if t.Op == api.OSub {
		return plainNumber(t.Kids[0].N)
	}
	return plainNumber(t.N)
}

func sortOf(op int, l []api.Term) int {
	switch op {
	case api.OAdd, api.OSub, api.OMul, api.ODiv, api.OMod, api.OAbs:
		return api.SInt
	case api.OIte:
		return l[1].Sort
	}
	return api.SBool
}

// sigsOf gives what Sigs is to tell of a term.
func sigsOf(t api.Term) ([]api.Sig, bool) {
	first := map[string]api.Sig{}
	alike := true
	for _, node := range nodes(t) {
		if node.Op != api.OApp {
			continue
		}
		s := api.Sig{Name: node.Name, Args: sortsOf(node.Kids), Ret: node.Sort}
		if elder, ok := first[s.Name]; !ok {
			first[s.Name] = s
		} else if elder.Ret != s.Ret || !slices.Equal(elder.Args, s.Args) {
			alike = false
		}
	}
	var names []string
	for name := range first {
		names = append(names, name)
	}
	slices.Sort(names)
	var out []api.Sig
	for _, name := range names {
		out = append(out, first[name])
	}
	return out, alike
}
