package gcd_test

import (
	"fmt"
	"math"
	"math/big"
	"math/rand"
	"slices"
	"strconv"
	"strings"
	"testing"

	"mullion/api"
	"mullion/gcd"
	"mullion/whole"
)

const last = api.Base - 1

func plus(mag ...uint32) api.Int { return api.Int{Mag: mag} }

func minus(mag ...uint32) api.Int { return api.Int{Neg: true, Mag: mag} }

// wrong gives what is no integer.
func wrong() []api.Int {
	out := []api.Int{{Neg: true}, {Neg: true, Mag: []uint32{}}}
	for _, mag := range [][]uint32{
		{0},
		{0, 0},
		{6, 0},
		{6, 12, 0},
		{api.Base},
		{api.Base + 6},
		{api.Base, 1},
		{6, api.Base},
		{6, api.Base + 6, 6},
		{math.MaxUint32},
		{6, math.MaxUint32, 6},
		append(slices.Repeat([]uint32{6}, 90), 0),
	} {
		out = append(out, plus(mag...), minus(slices.Clone(mag)...))
	}
	return out
}

// number tells what an integer is worth. It goes by its digits, nine a limb.
func number(a api.Int) *big.Int {
	var text strings.Builder
	if a.Neg {
		text.WriteString("-")
	}
	text.WriteString("0")
	for _, limb := range slices.Backward(a.Mag) {
		fmt.Fprintf(&text, "%09d", limb)
	}
	n, ok := new(big.Int).SetString(text.String(), 10)
	if !ok {
		panic("no number: " + text.String())
	}
	return n
}

// integer gives n as an api.Int, likewise.
func integer(n *big.Int) api.Int {
	out := api.Int{Neg: n.Sign() < 0}
	for text := new(big.Int).Abs(n).String(); text != "" && text != "0"; {
		place := max(len(text)-9, 0)
		limb, _ := strconv.ParseUint(text[place:], 10, 32)
		out.Mag = append(out.Mag, uint32(limb))
		text = text[:place]
	}
	return out
}

// equal holds both against each other field by field, without the program.
func equal(a, b api.Int) bool { return a.Neg == b.Neg && slices.Equal(a.Mag, b.Mag) }

// some gives an integer of at most n limbs, many of them at an edge.
func some(r *rand.Rand, n int) api.Int {
	edges := []uint32{0, 0, 1, 2, api.Base / 2, last - 1, last, last}
	out := api.Int{Mag: make([]uint32, r.Intn(n+1))}
	for i := range out.Mag {
		out.Mag[i] = uint32(r.Intn(api.Base))
		if r.Intn(2) == 0 {
			out.Mag[i] = edges[r.Intn(len(edges))]
		}
	}
	if len(out.Mag) > 0 {
		out.Mag[len(out.Mag)-1] = max(out.Mag[len(out.Mag)-1], 1)
		out.Neg = r.Intn(2) == 0
	}
	return out
}

// divisor gives the greatest that divides both, by numbers.
func divisor(x, y *big.Int) *big.Int {
	return new(big.Int).GCD(nil, nil, new(big.Int).Abs(x), new(big.Int).Abs(y))
}

// multiple gives the least above 0 that both divide, or 0, by numbers.
func multiple(x, y *big.Int) *big.Int {
	out := new(big.Int)
	if x.Sign() == 0 || y.Sign() == 0 {
		return out
	}
	return out.Abs(out.Quo(out.Mul(x, y), divisor(x, y)))
}

// check holds Of, All and Lcm of a and b, two integers, against numbers.
func check(t *testing.T, a, b api.Int) {
	t.Helper()
	x, y := number(a), number(b)
	greatest, least := integer(divisor(x, y)), integer(multiple(x, y))
	for _, c := range []struct {
		call      string
		got, want api.Int
	}{
		{"Of", gcd.Of(a, b), greatest},
		{"Of, the other way round,", gcd.Of(b, a), greatest},
		{"All", gcd.All([]api.Int{a, b}), greatest},
		{"Lcm", gcd.Lcm(a, b), least},
		{"Lcm, the other way round,", gcd.Lcm(b, a), least},
	} {
		if !equal(c.got, c.want) || !whole.Is(c.got) {
			t.Fatalf("P4.1: %s of %v, %v: %v, not %v", c.call, a, b, c.got, c.want)
		}
	}
}

func TestOf(t *testing.T) {
	for _, c := range []struct{ a, b, want api.Int }{
		{api.Int{}, api.Int{}, api.Int{}},
		{api.Int{Mag: []uint32{}}, api.Int{}, api.Int{}},
		{plus(12), minus(18), plus(6)},
		{minus(12), minus(18), plus(6)},
		{minus(12), plus(18), plus(6)},
		{plus(12), plus(18), plus(6)},
		{plus(5), api.Int{}, plus(5)},
		{minus(5), api.Int{}, plus(5)},
		{minus(1), api.Int{}, plus(1)},
		{minus(7, 8, 9), api.Int{}, plus(7, 8, 9)},
		{plus(1), minus(1), plus(1)},
		{plus(1), minus(7, 8, 9), plus(1)},
		{plus(7), plus(9), plus(1)},
		{minus(8), minus(8), plus(8)},
		{minus(8), plus(64), plus(8)},
		{plus(0, 1), plus(0, 2), plus(0, 1)},
		{plus(0, 1), plus(0, 0, 3), plus(0, 1)},
		{minus(0, 0, 0, 1), plus(0, 0, 0, 0, 1), plus(0, 0, 0, 1)},
		{plus(0, 4, 0, 4), minus(0, 6), plus(0, 2)},
		{minus(0, 0, 0, 4), plus(0, 0, 0, 6), plus(0, 0, 0, 2)},
		{plus(last, last), plus(last), plus(last)},
		{plus(last, last, last), plus(last, last), plus(last)},
		{plus(1, 0, 1), plus(0, 0, 1), plus(1)},
	} {
		if got := gcd.Of(c.a, c.b); !equal(got, c.want) {
			t.Errorf("P4.1: Of(%v, %v): %v", c.a, c.b, got)
		}
		if got := gcd.Of(c.b, c.a); !equal(got, c.want) {
			t.Errorf("P4.1: Of(%v, %v): %v", c.b, c.a, got)
		}
	}
}

func TestLcm(t *testing.T) {
	for _, c := range []struct{ a, b, want api.Int }{
		{api.Int{}, api.Int{}, api.Int{}},
		{plus(5), api.Int{}, api.Int{}},
		{minus(5), api.Int{}, api.Int{}},
		{minus(7, 8, 9), api.Int{Mag: []uint32{}}, api.Int{}},
		{plus(12), minus(18), plus(36)},
		{minus(12), minus(18), plus(36)},
		{plus(4), plus(6), plus(12)},
		{plus(1), minus(1), plus(1)},
		{minus(1), plus(7, 8, 9), plus(7, 8, 9)},
		{plus(7), plus(9), plus(63)},
		{minus(8), minus(8), plus(8)},
		{minus(8), plus(64), plus(64)},
		{plus(0, 1), plus(0, 3), plus(0, 3)},
		{plus(0, 0, 0, 4), minus(0, 0, 0, 6), plus(0, 0, 0, 12)},
		{plus(last), plus(0, 1), plus(0, last)},
		{plus(1, 1), plus(last), plus(last, last)},
	} {
		if got := gcd.Lcm(c.a, c.b); !equal(got, c.want) {
			t.Errorf("P4.1: Lcm(%v, %v): %v", c.a, c.b, got)
		}
		if got := gcd.Lcm(c.b, c.a); !equal(got, c.want) {
			t.Errorf("P4.1: Lcm(%v, %v): %v", c.b, c.a, got)
		}
	}
}

func TestAll(t *testing.T) {
	for _, c := range []struct {
		l    []api.Int
		want api.Int
	}{
		{nil, api.Int{}},
		{[]api.Int{}, api.Int{}},
		{[]api.Int{{}}, api.Int{}},
		{[]api.Int{{}, {}, {}}, api.Int{}},
		{[]api.Int{plus(6)}, plus(6)},
		{[]api.Int{minus(6)}, plus(6)},
		{[]api.Int{minus(7, 8, 9)}, plus(7, 8, 9)},
		{[]api.Int{{}, minus(6)}, plus(6)},
		{[]api.Int{minus(6), {}}, plus(6)},
		{[]api.Int{{}, minus(6), {}, plus(4), {}}, plus(2)},
		{[]api.Int{plus(6), plus(10), plus(15)}, plus(1)},
		{[]api.Int{plus(30), minus(42), {}, plus(70)}, plus(2)},
		{[]api.Int{plus(1), plus(0, 0, 6), plus(6)}, plus(1)},
		{[]api.Int{plus(0, 0, 0, 6), minus(0, 0, 9), plus(0, 15), plus(0, 0, 0, 0, 1)}, plus(0, 5)},
		{slices.Repeat([]api.Int{minus(0, 12)}, 1000), plus(0, 12)},
		{append(slices.Repeat([]api.Int{minus(0, 12)}, 1000), plus(8)), plus(8)},
	} {
		if got := gcd.All(c.l); !equal(got, c.want) {
			t.Errorf("P4.1: All(%v): %v", c.l, got)
		}
		slices.Reverse(c.l)
		if got := gcd.All(c.l); !equal(got, c.want) {
			t.Errorf("P4.1: All(%v): %v", c.l, got)
		}
	}
}

func TestAllAsNumbers(t *testing.T) {
	r := rand.New(rand.NewSource(1))
	for range 2000 {
		factor := some(r, 3)
		var l []api.Int
		want := new(big.Int)
		for range r.Intn(7) {
			n := whole.Mul(factor, some(r, 4))
			l = append(l, n)
			want = divisor(want, number(n))
		}
		if got := gcd.All(l); !equal(got, integer(want)) {
			t.Fatalf("P4.1: All(%v): %v", l, got)
		}
	}
}

// TestEdges takes all pairs of what lies at an edge of one, two and three
// limbs, of 63 and 64 bits, and what is one beyond.
func TestEdges(t *testing.T) {
	var edges []api.Int
	for _, text := range []string{"0", "1", "2", "3", "6", "999999999", "1000000000", "1000000001", "999999999999999999", "1000000000000000000", "1000000000000000001", "9223372036854775807", "9223372036854775808", "18446744073709551615", "18446744073709551616", "999999999999999999999999999", "1000000000000000000000000000"} {
		n, _ := new(big.Int).SetString(text, 10)
		a := integer(n)
		edges = append(edges, a)
		if text != "0" {
			edges = append(edges, minus(a.Mag...))
		}
	}
	for _, a := range edges {
		for _, b := range edges {
			check(t, a, b)
			checkExt(t, a, b)
		}
	}
}

func TestAsNumbers(t *testing.T) {
	r := rand.New(rand.NewSource(2))
	for range 5000 {
		factor := some(r, 3)
		a, b := some(r, 5), some(r, 5)
		check(t, a, b)
		check(t, whole.Mul(a, factor), whole.Mul(b, factor))
		check(t, a, whole.Mul(a, b))
	}
	for range 50 {
		check(t, some(r, 150), some(r, 90))
	}
}

// TestLong takes integers far beyond MaxLimbs: nothing has a bound.
func TestLong(t *testing.T) {
	long := []api.Int{
		plus(slices.Repeat([]uint32{last}, api.MaxLimbs)...),
		minus(append(make([]uint32, api.MaxLimbs), 1)...),
		minus(slices.Repeat([]uint32{last}, 300)...),
		plus(append(make([]uint32, 400), 1)...),
		minus(slices.Repeat([]uint32{7, 0, last}, 100)...),
		plus(6),
		minus(1),
		{},
	}
	for _, a := range long {
		for _, b := range long {
			check(t, a, b)
			checkExt(t, a, b)
		}
	}
}
