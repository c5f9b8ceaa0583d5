package value

import (
	"mullion/api"
	"mullion/whole"
)

// reckoned gives the number that op, an operator of numbers, makes of them.
func reckoned(op int, l ...api.Int) api.Int {
	switch op {
	case api.OAdd:
		return sum(l...)
	case api.OSub:
		return less(l[0], l[1:]...)
	case api.OMul:
		return whole.Mul(l[0], l[1])
	case api.OAbs:
		return whole.Abs(l[0])
	}
	quotient, left := whole.Euclid(l[0], l[1])
	if op == api.ODiv {
		return quotient
	}
	return left
}

// sum gives all of however many together.
func sum(l ...api.Int) api.Int {
	var out api.Int
	for _, n := range l {
		out = whole.Add(out, n)
	}
	return out
}

// less gives first less all others; its opposite, if there are none.
func less(first api.Int, others ...api.Int) api.Int {
	if len(others) == 0 {
		return whole.Neg(first)
	}
	return whole.Sub(first, sum(others...))
}

func numbers(values ...api.Value) []api.Int {
	var out []api.Int
	for _, v := range values {
		out = append(out, v.N)
	}
	return out
}
