package rat_test

import (
	"fmt"
	"math"
	"math/big"
	"math/rand"
	"slices"
	"strconv"
	"strings"
	"testing"

	"mullion/api"
	"mullion/rat"
	"mullion/whole"
)

const last = api.Base - 1

func plus(mag ...uint32) api.Int { return api.Int{Mag: mag} }

func minus(mag ...uint32) api.Int { return api.Int{Neg: true, Mag: mag} }

// wrong gives what is no integer.
func wrong() []api.Int {
	out := []api.Int{{Neg: true}, {Neg: true, Mag: []uint32{}}}
	for _, mag := range wrongRows() {
		out = append(out, plus(mag...), minus(slices.Clone(mag)...))
	}
	return out
}

// wrongRows gives what is no natural.
func wrongRows() [][]uint32 {
	return [][]uint32{
		{0},
		{0, 0},
		{5, 0},
		{5, 12, 0},
		{api.Base},
		{api.Base + 5},
		{api.Base, 1},
		{5, api.Base},
		{5, api.Base + 5, 5},
		{math.MaxUint32},
		{5, math.MaxUint32, 5},
		append(slices.Repeat([]uint32{5}, 90), 0),
	}
}

// wrongs gives what is no fraction: a part of it is wrong, Q is 0, or both
// aren't shortened.
func wrongs() []api.Rat {
	out := []api.Rat{{}, {Q: []uint32{}}, {P: plus(1)}, {P: minus(5)}, {P: plus(5), Q: []uint32{}}}
	for _, p := range wrong() {
		out = append(out, api.Rat{P: p, Q: []uint32{1}}, api.Rat{P: p, Q: []uint32{7, 3}})
	}
	for _, q := range wrongRows() {
		out = append(out, api.Rat{Q: q}, api.Rat{P: plus(1), Q: slices.Clone(q)}, api.Rat{P: minus(7, 3), Q: slices.Clone(q)})
	}
	return append(out, []api.Rat{
		{Q: []uint32{2}},
		{Q: []uint32{0, 1}},
		{P: plus(2), Q: []uint32{2}},
		{P: minus(4), Q: []uint32{2}},
		{P: minus(2), Q: []uint32{4}},
		{P: plus(6), Q: []uint32{9}},
		{P: minus(0, 1), Q: []uint32{10}},
		{P: plus(0, 0, 0, 7), Q: []uint32{0, 0, 0, 1}},
		{P: minus(last, last, last), Q: []uint32{last}},
	}...)
}

// number tells what an integer is worth. It goes by its digits, nine a limb.
func number(a api.Int) *big.Int {
	var text strings.Builder
	if a.Neg {
		text.WriteString("-")
	}
	text.WriteString("0")
	for _, limb := range slices.Backward(a.Mag) {
		fmt.Fprintf(&text, "%09d", limb)
	}
	n, ok := new(big.Int).SetString(text.String(), 10)
	if !ok {
		panic("no number: " + text.String())
	}
	return n
}

// integer gives n as an api.Int, likewise.
func integer(n *big.Int) api.Int {
	out := api.Int{Neg: n.Sign() < 0}
	for text := new(big.Int).Abs(n).String(); text != "" && text != "0"; {
		place := max(len(text)-9, 0)
		limb, _ := strconv.ParseUint(text[place:], 10, 32)
		out.Mag = append(out.Mag, uint32(limb))
		text = text[:place]
	}
	return out
}

// quotient tells what a fraction is worth.
func quotient(a api.Rat) *big.Rat {
	return new(big.Rat).SetFrac(number(a.P), number(api.Int{Mag: a.Q}))
}

// fraction gives n as an api.Rat.
func fraction(n *big.Rat) api.Rat {
	return api.Rat{P: integer(n.Num()), Q: integer(n.Denom()).Mag}
}

// over gives p by q as an api.Rat, by numbers.
func over(p, q int64) api.Rat { return fraction(big.NewRat(p, q)) }

// same and equal hold both against each other field by field, without the
// program.
func same(a, b api.Int) bool { return a.Neg == b.Neg && slices.Equal(a.Mag, b.Mag) }

func equal(a, b api.Rat) bool { return same(a.P, b.P) && slices.Equal(a.Q, b.Q) }

// some gives an integer of at most n limbs, many of them at an edge.
func some(r *rand.Rand, n int) api.Int {
	edges := []uint32{0, 0, 1, 2, api.Base / 2, last - 1, last, last}
	out := api.Int{Mag: make([]uint32, r.Intn(n+1))}
	for i := range out.Mag {
		out.Mag[i] = uint32(r.Intn(api.Base))
		if r.Intn(2) == 0 {
			out.Mag[i] = edges[r.Intn(len(edges))]
		}
	}
	if len(out.Mag) > 0 {
		out.Mag[len(out.Mag)-1] = max(out.Mag[len(out.Mag)-1], 1)
		out.Neg = r.Intn(2) == 0
	}
	return out
}

// someOver gives a fraction of parts of at most n limbs, by numbers.
func someOver(r *rand.Rand, n int) api.Rat {
	q := number(some(r, n))
	if q.Sign() == 0 {
		q.SetInt64(1)
	}
	return fraction(new(big.Rat).SetFrac(number(some(r, n)), q))
}

func TestIs(t *testing.T) {
	for _, a := range []api.Rat{
		{Q: []uint32{1}},
		{P: api.Int{Mag: []uint32{}}, Q: []uint32{1}},
		{P: plus(1), Q: []uint32{1}},
		{P: minus(1), Q: []uint32{1}},
		{P: plus(1), Q: []uint32{2}},
		{P: minus(1), Q: []uint32{2}},
		{P: minus(3), Q: []uint32{2}},
		{P: plus(4), Q: []uint32{9}},
		{P: plus(0, 1), Q: []uint32{1}},
		{P: minus(1), Q: []uint32{0, 1}},
		{P: plus(last, last), Q: []uint32{0, 0, 1}},
		{P: minus(7, 3), Q: []uint32{1}},
		{P: plus(0, 0, 0, 1), Q: []uint32{1, 0, 0, 1}},
	} {
		if !rat.Is(a) {
			t.Errorf("P5.1: Is(%v): false", a)
		}
	}
	for _, a := range wrongs() {
		if rat.Is(a) {
			t.Errorf("P5.1: Is(%v): true", a)
		}
	}
}

// TestIsAsNumbers asks of all fractions of small parts, shortened or not.
func TestIsAsNumbers(t *testing.T) {
	for p := int64(-40); p <= 40; p++ {
		for q := int64(0); q <= 40; q++ {
			a := api.Rat{P: whole.Of(p), Q: whole.Of(q).Mag}
			want := q > 0 && new(big.Int).GCD(nil, nil, big.NewInt(max(p, -p)), big.NewInt(q)).Int64() == 1
			if rat.Is(a) != want {
				t.Errorf("P5.1: Is of %d and %d: %t", p, q, !want)
			}
		}
	}
}

func TestOf(t *testing.T) {
	for _, c := range []struct {
		p, q api.Int
		want api.Rat
	}{
		{plus(6), minus(4), api.Rat{P: minus(3), Q: []uint32{2}}},
		{minus(6), plus(4), api.Rat{P: minus(3), Q: []uint32{2}}},
		{minus(6), minus(4), api.Rat{P: plus(3), Q: []uint32{2}}},
		{plus(6), plus(4), api.Rat{P: plus(3), Q: []uint32{2}}},
		{plus(3), plus(2), api.Rat{P: plus(3), Q: []uint32{2}}},
		{plus(8), plus(4), api.Rat{P: plus(2), Q: []uint32{1}}},
		{plus(8), minus(4), api.Rat{P: minus(2), Q: []uint32{1}}},
		{plus(4), minus(8), api.Rat{P: minus(1), Q: []uint32{2}}},
		{minus(5), minus(5), api.Rat{P: plus(1), Q: []uint32{1}}},
		{minus(5), plus(5), api.Rat{P: minus(1), Q: []uint32{1}}},
		{plus(5), plus(1), api.Rat{P: plus(5), Q: []uint32{1}}},
		{plus(5), minus(1), api.Rat{P: minus(5), Q: []uint32{1}}},
		{api.Int{}, plus(1), api.Rat{Q: []uint32{1}}},
		{api.Int{}, minus(5), api.Rat{Q: []uint32{1}}},
		{api.Int{Mag: []uint32{}}, plus(0, 0, 7), api.Rat{Q: []uint32{1}}},
		{api.Int{}, api.Int{}, api.Rat{Q: []uint32{1}}},
		{plus(5), api.Int{}, api.Rat{Q: []uint32{1}}},
		{minus(5), api.Int{Mag: []uint32{}}, api.Rat{Q: []uint32{1}}},
		{minus(7, 8, 9), api.Int{}, api.Rat{Q: []uint32{1}}},
		{minus(0, 6), plus(0, 4), api.Rat{P: minus(3), Q: []uint32{2}}},
		{minus(0, 0, 6), plus(0, 4), api.Rat{P: minus(500000000, 1), Q: []uint32{1}}},
		{plus(0, 4), minus(0, 0, 6), api.Rat{P: minus(1), Q: []uint32{500000000, 1}}},
		{plus(0, 0, 7), minus(0, 0, 0, 9), api.Rat{P: minus(7), Q: []uint32{0, 9}}},
		{plus(last, last, last, last), minus(last, last), api.Rat{P: minus(1, 0, 1), Q: []uint32{1}}},
		{minus(last, last), plus(last, last, last, last), api.Rat{P: minus(1), Q: []uint32{1, 0, 1}}},
	} {
		if got := rat.Of(c.p, c.q); !equal(got, c.want) {
			t.Errorf("P5.1: Of(%v, %v): %v", c.p, c.q, got)
		}
	}
}

// TestOfAsNumbers takes all small integers by one another, and great ones that
// have a factor in common.
func TestOfAsNumbers(t *testing.T) {
	for p := int64(-30); p <= 30; p++ {
		for q := int64(-30); q <= 30; q++ {
			if q != 0 && !equal(rat.Of(whole.Of(p), whole.Of(q)), over(p, q)) {
				t.Errorf("P5.1: Of %d and %d: %v", p, q, rat.Of(whole.Of(p), whole.Of(q)))
			}
		}
	}
	r := rand.New(rand.NewSource(1))
	for range 3000 {
		factor := some(r, 3)
		p, q := whole.Mul(some(r, 4), factor), whole.Mul(some(r, 4), factor)
		want := over(0, 1)
		if len(q.Mag) > 0 {
			want = fraction(new(big.Rat).SetFrac(number(p), number(q)))
		}
		if got := rat.Of(p, q); !equal(got, want) {
			t.Fatalf("P5.1: Of(%v, %v): %v", p, q, got)
		}
	}
}

// TestOfWrongOnes: what is no integer counts as 0, above and below.
func TestOfWrongOnes(t *testing.T) {
	zero := over(0, 1)
	for _, bad := range wrong() {
		for i, got := range []api.Rat{rat.Of(bad, plus(7)), rat.Of(bad, minus(7)), rat.Of(plus(7), bad), rat.Of(minus(7), bad), rat.Of(bad, bad), rat.Int(bad)} {
			if !equal(got, zero) {
				t.Errorf("P5.1: row %d of %v: %v, not 0", i, bad, got)
			}
		}
	}
}

func TestInt(t *testing.T) {
	for _, p := range []api.Int{{}, {Mag: []uint32{}}, plus(1), minus(1), plus(2), minus(7), minus(0, 0, 1), plus(last, last), minus(slices.Repeat([]uint32{last}, 60)...)} {
		got := rat.Int(p)
		if !equal(got, api.Rat{P: p, Q: []uint32{1}}) || !rat.Is(got) || !rat.Whole(got) {
			t.Errorf("P5.1: Int(%v): %v", p, got)
		}
	}
}

func TestWhole(t *testing.T) {
	for _, c := range []struct {
		a    api.Rat
		want bool
	}{
		{over(0, 1), true},
		{over(1, 1), true},
		{over(-7, 1), true},
		{over(-1, 2), false},
		{over(1, 2), false},
		{over(7, 3), false},
		{api.Rat{P: minus(0, 1), Q: []uint32{1}}, true},
		{api.Rat{P: plus(1), Q: []uint32{0, 1}}, false},
		{api.Rat{P: plus(1), Q: []uint32{1, 1}}, false},
		{api.Rat{P: plus(0, 0, 9), Q: []uint32{1, 1}}, false},
	} {
		if rat.Whole(c.a) != c.want {
			t.Errorf("P5.1: Whole(%v): %t", c.a, !c.want)
		}
	}
}

// ordered gives fractions, each above the one ahead of it.
func ordered() []api.Rat {
	return []api.Rat{
		{P: minus(last, last, last), Q: []uint32{1}},
		{P: minus(1, 0, 1), Q: []uint32{0, 1}},
		{P: minus(0, 1), Q: []uint32{1}},
		over(-7, 2), over(-3, 1), over(-3, 2), over(-1, 1), over(-999999999, 1000000000), over(-2, 3), over(-1, 2), over(-1, 3),
		{P: minus(1), Q: []uint32{0, 0, 1}},
		over(0, 1),
		{P: plus(1), Q: []uint32{1, 0, 1}},
		{P: plus(1), Q: []uint32{0, 0, 1}},
		over(1, 3), over(1, 2), over(2, 3),
		{P: plus(last), Q: []uint32{0, 1}},
		over(1, 1),
		{P: plus(1, 1), Q: []uint32{0, 1}},
		over(3, 2), over(3, 1), over(7, 2),
		{P: plus(0, 0, 1), Q: []uint32{1, 1}},
		{P: plus(0, 1), Q: []uint32{1}},
		{P: plus(last, last), Q: []uint32{2}},
	}
}

func TestCmp(t *testing.T) {
	all := ordered()
	for i, a := range all {
		if !rat.Is(a) {
			t.Fatalf("P5.1: Is(%v): false", a)
		}
		for j, b := range all {
			want := 0
			if i < j {
				want = -1
			}
			if i > j {
				want = 1
			}
			if got := rat.Cmp(a, b); got != want {
				t.Errorf("P5.1: Cmp(%v, %v): %d", a, b, got)
			}
			if rat.Same(a, b) != (i == j) {
				t.Errorf("P5.1: Same(%v, %v): %t", a, b, i != j)
			}
		}
	}
}
