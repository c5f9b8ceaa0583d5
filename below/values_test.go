package below_test

import (
	"fmt"
	"math"
	"math/big"
	"math/rand"
	"slices"
	"strconv"
	"strings"

	"mullion/api"
)

const last = api.Base - 1

func plus(mag ...uint32) api.Int { return api.Int{Mag: mag} }

func minus(mag ...uint32) api.Int { return api.Int{Neg: true, Mag: mag} }

// number tells what an integer is worth. It goes by its digits, nine a limb.
func number(a api.Int) *big.Int {
	var text strings.Builder
	if a.Neg {
		text.WriteString("-")
	}
	text.WriteString("0")
	for _, limb := range slices.Backward(a.Mag) {
		fmt.Fprintf(&text, "%09d", limb)
	}
	n, ok := new(big.Int).SetString(text.String(), 10)
	if !ok {
		panic("no number: " + text.String())
	}
	return n
}

// integer gives n as an api.Int, likewise.
func integer(n *big.Int) api.Int {
	out := api.Int{Neg: n.Sign() < 0}
	for text := new(big.Int).Abs(n).String(); text != "" && text != "0"; {
		place := max(len(text)-9, 0)
		limb, _ := strconv.ParseUint(text[place:], 10, 32)
		out.Mag = append(out.Mag, uint32(limb))
		text = text[:place]
	}
	return out
}

func small(n int64) api.Int { return integer(big.NewInt(n)) }

func smalls(l ...int64) []api.Int {
	var out []api.Int
	for _, n := range l {
		out = append(out, small(n))
	}
	return out
}

// form gives a form: a number, and how often each variable is there, from
// variable 0 on.
func form(k int64, coefs ...int64) api.Lin {
	out := api.Lin{K: small(k)}
	for v, c := range coefs {
		if c != 0 {
			out.T = append(out.T, times(v, c))
		}
	}
	return out
}

func times(v int, c int64) api.Mono { return api.Mono{V: v, C: small(c)} }

// same and equal hold both against each other field by field, without the
// program.
func same(a, b api.Int) bool { return a.Neg == b.Neg && slices.Equal(a.Mag, b.Mag) }

func equal(a, b api.Lin) bool {
	return same(a.K, b.K) && slices.EqualFunc(a.T, b.T, func(m, n api.Mono) bool { return m.V == n.V && same(m.C, n.C) })
}

// wrongInts gives what is no integer.
func wrongInts() []api.Int {
	out := []api.Int{{Neg: true}, {Neg: true, Mag: []uint32{}}}
	for _, mag := range [][]uint32{{0}, {0, 0}, {6, 0}, {api.Base}, {api.Base + 6}, {6, api.Base}, {api.Base, 1}, {math.MaxUint32}} {
		out = append(out, plus(mag...), minus(slices.Clone(mag)...))
	}
	return out
}

// wrongs gives what is no form; as far as it were one, it were above 0 mostly.
func wrongs() []api.Lin {
	var out []api.Lin
	for _, l := range [][]api.Mono{
		{times(1, 5), times(1, 6)},
		{times(1, 4), times(1, -4)},
		{times(0, 4), times(0, 4)},
		{times(2, 4), times(1, 6)},
		{times(0, 1), times(2, 1), times(1, 1)},
		{times(math.MaxInt, 1), times(0, 1)},
		{times(math.MaxInt, 1), times(math.MinInt, 1)},
		{times(-1, 5)},
		{times(-1, 4), times(0, 6)},
		{times(0, 4), times(-1, 6)},
		{times(math.MinInt, 5)},
		{times(0, 0)},
		{times(0, 4), times(1, 0)},
		{times(0, 0), times(1, 4)},
	} {
		out = append(out, api.Lin{T: l, K: plus(3)}, api.Lin{T: slices.Clone(l), K: minus(3)})
	}
	for _, bad := range wrongInts() {
		out = append(out,
			api.Lin{K: bad},
			api.Lin{T: []api.Mono{times(0, 4)}, K: bad},
			api.Lin{T: []api.Mono{{V: 0, C: bad}}, K: plus(3)},
			api.Lin{T: []api.Mono{times(0, 4), {V: 1, C: bad}}, K: plus(3)},
			api.Lin{T: []api.Mono{{V: 0, C: bad}, times(1, 4)}, K: plus(3)})
	}
	return out
}

// ones gives forms: without variables, with such ones as one integer divides,
// and does not; numbers of many limbs among them.
func ones() []api.Lin {
	return []api.Lin{
		{}, {T: []api.Mono{}, K: api.Int{Mag: []uint32{}}}, form(1), form(-1), form(7), form(-7), {K: plus(0, 1)}, {K: minus(last, last)},
		form(0, 1), form(0, -1), form(0, 2), form(1, 2), form(-1, 2), form(-3, -2), form(3, -2), form(0, 0, 1), form(5, 1, 0, -2), form(5, 2, 0, -4),
		form(4, 6, -9), form(-4, 6, -9), form(6, 6, -9), form(7, 0, 10, 0, -15, 25), form(-7, 0, 10, 0, -15, 25),
		{T: []api.Mono{{V: 3, C: plus(0, 1)}}, K: plus(1)}, {T: []api.Mono{{V: 3, C: minus(0, 1)}}, K: minus(1)},
		{T: []api.Mono{{V: 0, C: plus(0, 0, 6)}, {V: 9, C: minus(0, 9)}}, K: minus(7, 8, 9, 10)},
		{T: []api.Mono{times(0, 4), times(math.MaxInt-1, 2), times(math.MaxInt, -2)}, K: plus(5)},
	}
}

// points gives values for variables, what is no integer among them.
func points() [][]api.Int {
	return [][]api.Int{nil, {}, smalls(3), smalls(0, -1), smalls(2, -5, 7, 1, 4, 6), {plus(0, 1), {Neg: true}, minus(7, 8, 9), plus(6, 0), plus(3)}}
}

// someInt gives an integer of at most n limbs, many of them at an edge.
func someInt(r *rand.Rand, n int) api.Int {
	edges := []uint32{0, 0, 1, 2, last, last}
	out := api.Int{Mag: make([]uint32, r.Intn(n+1))}
	for i := range out.Mag {
		out.Mag[i] = uint32(r.Intn(api.Base))
		if r.Intn(2) == 0 {
			out.Mag[i] = edges[r.Intn(len(edges))]
		}
	}
	if len(out.Mag) > 0 {
		out.Mag[len(out.Mag)-1] = max(out.Mag[len(out.Mag)-1], 1)
		out.Neg = r.Intn(2) == 0
	}
	return out
}

// some gives a form of some of n variables, all of them as many times as one
// integer divides; numbers are of at most so many limbs, times that integer.
func some(r *rand.Rand, n, limbs int) api.Lin {
	divisor := number(someInt(r, limbs))
	if divisor.Sign() == 0 || r.Intn(3) == 0 {
		divisor.SetInt64(r.Int63n(12) + 1)
	}
	out := api.Lin{K: someInt(r, 2*limbs)}
	for v := range n {
		c := number(someInt(r, limbs))
		if r.Intn(3) > 0 {
			c.SetInt64(r.Int63n(9) - 4)
		}
		if c.Sign() != 0 {
			out.T = append(out.T, api.Mono{V: v, C: integer(c.Mul(c, divisor))})
		}
	}
	return out
}

// somePoint gives values for up to n variables.
func somePoint(r *rand.Rand, n, limbs int) []api.Int {
	out := make([]api.Int, r.Intn(n+1))
	for i := range out {
		out[i] = someInt(r, limbs)
		if r.Intn(2) == 0 {
			out[i] = small(r.Int63n(9) - 4)
		}
	}
	return out
}

// worth gives what a form is worth, by numbers.
func worth(l api.Lin, x []api.Int) *big.Int {
	out := number(l.K)
	for _, m := range l.T {
		if m.V < len(x) {
			out.Add(out, new(big.Int).Mul(number(m.C), number(x[m.V])))
		}
	}
	return out
}
