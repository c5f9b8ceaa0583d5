package value_test

import (
	"math/big"
	"slices"

	"mullion/api"
)

// The document's words, one by one, without the program.

func legalNumber(n api.Int) bool {
	for _, limb := range n.Mag {
		if limb >= api.Base {
			return false
		}
	}
	if len(n.Mag) == 0 {
		return !n.Neg
	}
	return n.Mag[len(n.Mag)-1] > 0
}

func legalValue(v api.Value) bool {
	switch v.Sort {
	case api.SInt:
		return legalNumber(v.N)
	case api.SBool:
		return legalNumber(v.N) && !v.N.Neg && (len(v.N.Mag) == 0 || slices.Equal(v.N.Mag, []uint32{1}))
	}
	return false
}

func legalName(s string) bool {
	for i, b := range []byte(s) {
		digit := b >= '0' && b <= '9'
		letter := b >= 'a' && b <= 'z' || b >= 'A' && b <= 'Z'
		mark := slices.Contains([]byte("~!@$%^&*_-+=<>.?/"), b)
		if !letter && !mark && !(digit && i > 0) {
			return false
		}
	}
	return len(s) >= 1 && len(s) <= 20
}

func legalSig(s api.Sig) bool {
	for _, sort := range append([]int{s.Ret}, s.Args...) {
		if sort != api.SInt && sort != api.SBool {
			return false
		}
	}
	return legalName(s.Name) && len(s.Args) <= 3
}

func legalRow(r api.Row, s api.Sig) bool {
	if len(r.Args) != len(s.Args) || !legalValue(r.V) || r.V.Sort != s.Ret {
		return false
	}
	for i, v := range r.Args {
		if !legalValue(v) || v.Sort != s.Args[i] {
			return false
		}
	}
	return true
}

func legal(m []api.Fun) bool {
	for i, f := range m {
		if !legalSig(f.Sig) || !legalValue(f.Else) || f.Else.Sort != f.Sig.Ret {
			return false
		}
		for _, elder := range m[:i] {
			if elder.Sig.Name >= f.Sig.Name {
				return false
			}
		}
		for _, r := range f.Rows {
			if !legalRow(r, f.Sig) {
				return false
			}
		}
	}
	return true
}

// meant gives what a structure says of a name for numbers, as one.
func meant(m []api.Fun, s api.Sig, l []*big.Int) *big.Int {
	for _, f := range m {
		if f.Sig.Name != s.Name || f.Sig.Ret != s.Ret || !slices.Equal(f.Sig.Args, s.Args) {
			continue
		}
		for _, r := range f.Rows {
			if slices.EqualFunc(r.Args, l, func(v api.Value, n *big.Int) bool { return big10(v.N).Cmp(n) == 0 }) {
				return big10(r.V.N)
			}
		}
		return big10(f.Else.N)
	}
	return big.NewInt(0)
}

// worth gives what a term is worth in a structure, as a number.
func worth(t api.Term, m []api.Fun) *big.Int {
	if t.Op == api.ONum {
		return big10(t.N)
	}
	var l []*big.Int
	var sorts []int
	for _, kid := range t.Kids {
		l = append(l, worth(kid, m))
		sorts = append(sorts, kid.Sort)
	}
	switch {
	case t.Op == api.OApp:
		return meant(m, api.Sig{Name: t.Name, Args: sorts, Ret: t.Sort}, l)
	case t.Op == api.OIte && l[0].Sign() > 0:
		return l[1]
	case t.Op == api.OIte:
		return l[2]
	case t.Sort == api.SInt:
		return worthNumber(t.Op, l)
	case worthBool(t.Op, l):
		return big.NewInt(1)
	}
	return big.NewInt(0)
}

func worthNumber(op int, l []*big.Int) *big.Int {
	out := new(big.Int).Set(l[0])
	switch op {
	case api.OAbs:
		return out.Abs(l[0])
	case api.OMul:
		return out.Mul(l[0], l[1])
	case api.ODiv:
		return out.Div(l[0], l[1]) // the rest from 0 on
	case api.OMod:
		return out.Mod(l[0], l[1])
	case api.OSub:
		if len(l) == 1 {
			return out.Neg(l[0])
		}
		for _, n := range l[1:] {
			out.Sub(out, n)
		}
		return out
	}
	for _, n := range l[1:] {
		out.Add(out, n)
	}
	return out
}

func worthBool(op int, l []*big.Int) bool {
	trues := 0
	for _, n := range l {
		trues += n.Sign()
	}
	switch op {
	case api.OTrue:
		return true
	case api.OFalse:
		return false
	case api.ONot:
		return trues == 0
	case api.OAnd:
		return trues == len(l)
	case api.OOr:
		return trues > 0
	case api.OXor:
		return trues == 1
	case api.OImplies:
		return l[0].Cmp(l[1]) <= 0
	case api.OEq:
		return l[0].Cmp(l[1]) == 0
	case api.ODistinct:
		return unlike(l)
	case api.OLe:
		return l[0].Cmp(l[1]) <= 0
	case api.OLt:
		return l[0].Cmp(l[1]) < 0
	case api.OGe:
		return l[0].Cmp(l[1]) >= 0
	}
	return l[0].Cmp(l[1]) > 0
}

func unlike(l []*big.Int) bool {
	for i := range l {
		for j := range i {
			if l[i].Cmp(l[j]) == 0 {
				return false
			}
		}
	}
	return true
}
