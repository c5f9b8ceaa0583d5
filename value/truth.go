package value

import (
	"slices"

	"mullion/api"
	"mullion/whole"
)

func truth(is bool) api.Value {
	if is {
		return api.Value{Sort: api.SBool, N: whole.Of(1)}
	}
	return api.Value{Sort: api.SBool}
}

// holds needs a v of Sort SBool.
func holds(v api.Value) bool { return whole.Sign(v.N) > 0 }

func fails(v api.Value) bool { return !holds(v) }

// chosen gives the second value, if the first one holds; else the third.
func chosen(values ...api.Value) api.Value {
	if holds(values[0]) {
		return values[1]
	}
	return values[2]
}

// told tells whether op, an operator of Sort SBool but OIte, is true of the
// values.
func told(op int, values ...api.Value) bool {
	switch op {
	case api.ONot:
		return fails(values[0])
	case api.OAnd:
		return !slices.ContainsFunc(values, fails)
	case api.OOr:
		return slices.ContainsFunc(values, holds)
	case api.OImplies:
		return fails(values[0]) || holds(values[1])
	case api.OEq:
		return Same(values[0], values[1])
	case api.OXor, api.ODistinct:
		return distinct(values...)
	}
	return compared(op, whole.Cmp(values[0].N, values[1].N))
}

// distinct tells whether no two are alike.
func distinct(values ...api.Value) bool {
	for i, v := range values {
		if slices.ContainsFunc(values[:i], func(elder api.Value) bool { return Same(elder, v) }) {
			return false
		}
	}
	return true
}

// compared tells whether op, a comparison, is true of two numbers of which
// whole's Cmp is side.
func compared(op, side int) bool {
	switch op {
	case api.OLe:
		return side <= 0
	case api.OLt:
		return side < 0
	case api.OGe:
		return side >= 0
	}
	return side > 0
}
