package gcd_test

import (
	"math/big"
	"math/rand"
	"testing"

	"mullion/api"
	"mullion/gcd"
	"mullion/whole"
)

// checkExt holds Ext of a and b, two integers, against numbers.
func checkExt(t *testing.T, a, b api.Int) {
	t.Helper()
	g, x, y := gcd.Ext(a, b)
	n, m := number(a), number(b)
	if !equal(g, integer(divisor(n, m))) {
		t.Fatalf("P4.2: Ext(%v, %v): %v, %v, %v", a, b, g, x, y)
	}
	if !whole.Is(x) || !whole.Is(y) {
		t.Fatalf("P4.2: Ext(%v, %v): %v, %v: no integers", a, b, x, y)
	}
	if n.Sign() == 0 || m.Sign() == 0 {
		if number(x).Cmp(big.NewInt(int64(n.Sign()))) != 0 || number(y).Cmp(big.NewInt(int64(m.Sign()))) != 0 {
			t.Fatalf("P4.2: Ext(%v, %v): %v, %v", a, b, x, y)
		}
		return
	}
	most := n
	if m.CmpAbs(n) > 0 {
		most = m
	}
	if number(x).CmpAbs(most) > 0 || number(y).CmpAbs(most) > 0 {
		t.Fatalf("P4.2: Ext(%v, %v): %v, %v: too great", a, b, x, y)
	}
	sum := new(big.Int).Mul(n, number(x))
	sum.Add(sum, new(big.Int).Mul(m, number(y)))
	if sum.Cmp(number(g)) != 0 {
		t.Fatalf("P4.2: Ext(%v, %v): %v, %v, %v: their sum is %v", a, b, g, x, y, sum)
	}
}

func TestExtOf0(t *testing.T) {
	for _, c := range []struct{ a, b, g, x, y api.Int }{
		{api.Int{}, api.Int{}, api.Int{}, api.Int{}, api.Int{}},
		{plus(5), api.Int{}, plus(5), plus(1), api.Int{}},
		{minus(5), api.Int{}, plus(5), minus(1), api.Int{}},
		{plus(1), api.Int{}, plus(1), plus(1), api.Int{}},
		{minus(1), api.Int{}, plus(1), minus(1), api.Int{}},
		{minus(7, 8, 9), api.Int{}, plus(7, 8, 9), minus(1), api.Int{}},
		{api.Int{}, plus(7), plus(7), api.Int{}, plus(1)},
		{api.Int{}, minus(7), plus(7), api.Int{}, minus(1)},
		{api.Int{}, plus(1), plus(1), api.Int{}, plus(1)},
		{api.Int{}, minus(1), plus(1), api.Int{}, minus(1)},
		{api.Int{}, plus(7, 8, 9), plus(7, 8, 9), api.Int{}, plus(1)},
		{api.Int{Mag: []uint32{}}, minus(7, 8, 9), plus(7, 8, 9), api.Int{}, minus(1)},
	} {
		g, x, y := gcd.Ext(c.a, c.b)
		if !equal(g, c.g) || !equal(x, c.x) || !equal(y, c.y) {
			t.Errorf("P4.2: Ext(%v, %v): %v, %v, %v", c.a, c.b, g, x, y)
		}
	}
}

// TestExtOfSmall takes all pairs of small ones: also those of which one divides
// the other, where x and y may be no greater than 1 once that is 1.
func TestExtOfSmall(t *testing.T) {
	for n := int64(-60); n <= 60; n++ {
		for m := int64(-60); m <= 60; m++ {
			checkExt(t, whole.Of(n), whole.Of(m))
		}
	}
}

func TestExtAsNumbers(t *testing.T) {
	r := rand.New(rand.NewSource(3))
	for range 3000 {
		factor := some(r, 3)
		a, b := some(r, 5), some(r, 5)
		checkExt(t, a, b)
		checkExt(t, b, a)
		checkExt(t, whole.Mul(a, factor), whole.Mul(b, factor))
		checkExt(t, a, whole.Mul(a, factor))
		checkExt(t, whole.Mul(a, factor), a)
	}
	for range 30 {
		checkExt(t, some(r, 90), some(r, 50))
	}
}

// TestNeighbours takes pairs that need the most steps: each the sum of the two
// ahead of it; and what lies beside each other, beside twice the other.
func TestNeighbours(t *testing.T) {
	one := whole.Of(1)
	a, b := one, one
	for range 400 {
		a, b = b, whole.Add(a, b)
		checkExt(t, a, b)
		checkExt(t, whole.Neg(b), a)
	}
	r := rand.New(rand.NewSource(4))
	for range 500 {
		a := some(r, 6)
		checkExt(t, a, whole.Add(a, one))
		checkExt(t, whole.Sub(a, one), whole.Neg(a))
		checkExt(t, a, whole.Add(whole.Add(a, a), one))
		checkExt(t, whole.Sub(whole.Add(a, a), one), a)
		checkExt(t, a, a)
		checkExt(t, a, whole.Neg(a))
	}
}

// TestEquations solves a times x and b times y is c: there are x and y just
// where Of divides c, and Ext leads to them.
func TestEquations(t *testing.T) {
	const far = 12
	for a := int64(-far); a <= far; a++ {
		for b := int64(-far); b <= far; b++ {
			for c := int64(-far); c <= far; c++ {
				g, x, y := gcd.Ext(whole.Of(a), whole.Of(b))
				times, rest := whole.Euclid(whole.Of(c), g)
				if got, want := whole.Sign(rest) == 0, solved(a, b, c, far); got != want {
					t.Fatalf("P4.3: %d x + %d y = %d: %t, not %t", a, b, c, got, want)
				}
				sum := whole.Add(whole.Mul(whole.Of(a), whole.Mul(x, times)), whole.Mul(whole.Of(b), whole.Mul(y, times)))
				if whole.Sign(rest) == 0 && !whole.Same(sum, whole.Of(c)) {
					t.Fatalf("P4.3: %d x + %d y = %d: %v, %v, times %v", a, b, c, x, y, times)
				}
			}
		}
	}
}

// solved tries all x that may be needed: if there is one, there is one below b's
// Abs; of b 0, one whose Abs is at most c's.
func solved(a, b, c, far int64) bool {
	for x := -far; x <= far; x++ {
		left := c - a*x
		if b == 0 && left == 0 || b != 0 && left%b == 0 {
			return true
		}
	}
	return false
}

// TestLaws: what both calls answer keeps to each other.
func TestLaws(t *testing.T) {
	r := rand.New(rand.NewSource(5))
	for range 2000 {
		a, b, c := some(r, 4), some(r, 4), some(r, 3)
		if got, want := whole.Mul(gcd.Of(a, b), gcd.Lcm(a, b)), whole.Abs(whole.Mul(a, b)); !equal(got, want) {
			t.Fatalf("P4.1: Of times Lcm of %v, %v: %v", a, b, got)
		}
		if got, want := gcd.Of(gcd.Of(a, b), c), gcd.All([]api.Int{c, a, b}); !equal(got, want) {
			t.Fatalf("P4.1: of %v, %v, %v: %v, and all at once %v", a, b, c, got, want)
		}
		if got, want := gcd.Of(whole.Mul(a, c), whole.Mul(b, c)), whole.Mul(gcd.Of(a, b), whole.Abs(c)); !equal(got, want) {
			t.Fatalf("P4.1: Of(%v, %v), each times %v: %v", a, b, c, got)
		}
		if g, _, _ := gcd.Ext(a, b); !equal(g, gcd.Of(a, b)) {
			t.Fatalf("P4.2: Ext(%v, %v): %v", a, b, g)
		}
	}
}
