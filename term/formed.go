package term

import (
	"slices"

	"mullion/api"
	"mullion/whole"
)

// all tells whether each one is a term.
func all(terms ...api.Term) bool {
	for _, t := range terms {
		if !Is(t) {
			return false
		}
	}
	return true
}

// formed tells whether all nodes of the terms are such as these calls make,
// however many they are.
func formed(terms ...api.Term) bool {
	for _, t := range terms {
		if !fits(t) || !formed(t.Kids...) {
			return false
		}
	}
	return true
}

// fits tells whether t is what these calls make of its kids, if they make its
// kids.
func fits(t api.Term) bool {
	switch t.Op {
	case api.ONum:
		return whole.Is(t.N) && len(t.Kids) == 0 && sameHead(t, api.Term{Op: t.Op, N: t.N, Sort: api.SInt})
	case api.OTrue, api.OFalse:
		return len(t.Kids) == 0 && sameHead(t, api.Term{Op: t.Op, Sort: api.SBool})
	case api.OApp:
		return IsSig(sig(t)) && sameHead(t, api.Term{Op: t.Op, Name: t.Name, Sort: t.Sort})
	}
	return ruled(t.Op) && rules[t.Op].counts(t.Kids...) && rules[t.Op].sorted(t.Kids...) && linear(t.Op, t.Kids...) == api.OK &&
		sameHead(t, api.Term{Op: t.Op, Sort: rules[t.Op].own(t.Kids...)})
}

// sameHead holds all but the kids against each other as it stands: what isn't
// whole's Is isn't taken for 0 here, or Is would take it for a number.
func sameHead(a, b api.Term) bool {
	return a.Op == b.Op && a.N.Neg == b.N.Neg && slices.Equal(a.N.Mag, b.N.Mag) && a.Name == b.Name && a.Sort == b.Sort
}
