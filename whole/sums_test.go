package whole_test

import (
	"math"
	"math/big"
	"math/rand"
	"slices"
	"testing"

	"mullion/api"
	"mullion/whole"
)

// check holds all calls of a and b, two integers, against numbers.
func check(t *testing.T, a, b api.Int) {
	t.Helper()
	x, y := number(a), number(b)
	down, rest := floored(x, y)
	times, left := new(big.Int), x
	if y.Sign() != 0 {
		times, left = new(big.Int).DivMod(x, y, new(big.Int))
	}
	gotDown, gotRest := whole.Floor(a, b)
	gotTimes, gotLeft := whole.Euclid(a, b)
	for _, c := range []struct {
		promise, call string
		got           api.Int
		want          *big.Int
	}{
		{"P2.1", "Neg", whole.Neg(a), new(big.Int).Neg(x)},
		{"P2.1", "Abs", whole.Abs(a), new(big.Int).Abs(x)},
		{"P2.1", "Add", whole.Add(a, b), new(big.Int).Add(x, y)},
		{"P2.1", "Sub", whole.Sub(a, b), new(big.Int).Sub(x, y)},
		{"P2.1", "Mul", whole.Mul(a, b), new(big.Int).Mul(x, y)},
		{"P2.2", "Floor", gotDown, down},
		{"P2.2", "Floor: what is left", gotRest, rest},
		{"P2.2", "Euclid", gotTimes, times},
		{"P2.2", "Euclid: what is left", gotLeft, left},
	} {
		if want := integer(c.want); !equal(c.got, want) {
			t.Fatalf("%s: %s of %v, %v: %v, not %v", c.promise, c.call, a, b, c.got, want)
		}
	}
	if whole.Cmp(a, b) != x.Cmp(y) || whole.Same(a, b) != (x.Cmp(y) == 0) {
		t.Fatalf("P2.1: Cmp(%v, %v): %d", a, b, whole.Cmp(a, b))
	}
	if whole.Sign(a) != x.Sign() {
		t.Fatalf("P2.1: Sign(%v): %d", a, whole.Sign(a))
	}
}

// floored divides by what is rounded to 0, and steps down from there.
func floored(x, y *big.Int) (quotient, left *big.Int) {
	if y.Sign() == 0 {
		return new(big.Int), x
	}
	quotient, left = new(big.Int).QuoRem(x, y, new(big.Int))
	if left.Sign()*y.Sign() < 0 {
		quotient.Sub(quotient, big.NewInt(1))
		left.Add(left, y)
	}
	return quotient, left
}

func TestSums(t *testing.T) {
	for _, c := range []struct{ a, b, sum, less, times api.Int }{
		{api.Int{}, api.Int{}, api.Int{}, api.Int{}, api.Int{}},
		{plus(5), api.Int{}, plus(5), plus(5), api.Int{}},
		{api.Int{}, plus(5), plus(5), minus(5), api.Int{}},
		{minus(5), api.Int{}, minus(5), minus(5), api.Int{}},
		{api.Int{}, minus(5), minus(5), plus(5), api.Int{}},
		{plus(5), plus(5), plus(10), api.Int{}, plus(25)},
		{plus(5), minus(5), api.Int{}, plus(10), minus(25)},
		{minus(5), plus(5), api.Int{}, minus(10), minus(25)},
		{minus(5), minus(5), minus(10), api.Int{}, plus(25)},
		{plus(5), minus(7), minus(2), plus(12), minus(35)},
		{minus(5), plus(7), plus(2), minus(12), minus(35)},
		{plus(7), minus(5), plus(2), plus(12), minus(35)},
		{minus(7), plus(5), minus(2), minus(12), minus(35)},
		{minus(last), minus(1), minus(0, 1), minus(last - 1), plus(last)},
		{minus(0, 1), plus(1), minus(last), minus(1, 1), minus(0, 1)},
		{plus(0, 0, 1), minus(1), plus(last, last), plus(1, 0, 1), minus(0, 0, 1)},
		{minus(last, last), minus(last), minus(last-1, 0, 1), minus(0, last), plus(1, last, last-1)},
	} {
		if got := whole.Add(c.a, c.b); !equal(got, c.sum) {
			t.Errorf("P2.1: Add(%v, %v): %v", c.a, c.b, got)
		}
		if got := whole.Sub(c.a, c.b); !equal(got, c.less) {
			t.Errorf("P2.1: Sub(%v, %v): %v", c.a, c.b, got)
		}
		if got := whole.Mul(c.a, c.b); !equal(got, c.times) {
			t.Errorf("P2.1: Mul(%v, %v): %v", c.a, c.b, got)
		}
	}
}

func TestOpposites(t *testing.T) {
	for _, c := range []struct{ a, opposite, size api.Int }{
		{api.Int{}, api.Int{}, api.Int{}},
		{plus(5), minus(5), plus(5)},
		{minus(5), plus(5), plus(5)},
		{minus(0, 1), plus(0, 1), plus(0, 1)},
		{whole.Of(math.MinInt64), plus(854775808, 223372036, 9), plus(854775808, 223372036, 9)},
	} {
		if got := whole.Neg(c.a); !equal(got, c.opposite) {
			t.Errorf("P2.1: Neg(%v): %v", c.a, got)
		}
		if got := whole.Abs(c.a); !equal(got, c.size) {
			t.Errorf("P2.1: Abs(%v): %v", c.a, got)
		}
	}
}

// TestDivisions takes dividend and divisor of each pair of signs, with a rest,
// without one, and with one of more than half; less than the divisor; and 0.
func TestDivisions(t *testing.T) {
	for _, c := range []struct{ a, b, down, rest, times, left int64 }{
		{7, 2, 3, 1, 3, 1},
		{-7, 2, -4, 1, -4, 1},
		{7, -2, -4, -1, -3, 1},
		{-7, -2, 3, -1, 4, 1},
		{8, 3, 2, 2, 2, 2},
		{-8, 3, -3, 1, -3, 1},
		{8, -3, -3, -1, -2, 2},
		{-8, -3, 2, -2, 3, 1},
		{6, 3, 2, 0, 2, 0},
		{-6, 3, -2, 0, -2, 0},
		{6, -3, -2, 0, -2, 0},
		{-6, -3, 2, 0, 2, 0},
		{5, 5, 1, 0, 1, 0},
		{-5, 5, -1, 0, -1, 0},
		{5, -5, -1, 0, -1, 0},
		{-5, -5, 1, 0, 1, 0},
		{1, 9, 0, 1, 0, 1},
		{-1, 9, -1, 8, -1, 8},
		{1, -9, -1, -8, 0, 1},
		{-1, -9, 0, -1, 1, 8},
		{7, 1, 7, 0, 7, 0},
		{-7, 1, -7, 0, -7, 0},
		{7, -1, -7, 0, -7, 0},
		{-7, -1, 7, 0, 7, 0},
		{0, 5, 0, 0, 0, 0},
		{0, -5, 0, 0, 0, 0},
		{0, 0, 0, 0, 0, 0},
		{5, 0, 0, 5, 0, 5},
		{-5, 0, 0, -5, 0, -5},
	} {
		a, b := whole.Of(c.a), whole.Of(c.b)
		down, rest := whole.Floor(a, b)
		if !equal(down, whole.Of(c.down)) || !equal(rest, whole.Of(c.rest)) {
			t.Errorf("P2.2: Floor(%d, %d): %v, %v", c.a, c.b, down, rest)
		}
		times, left := whole.Euclid(a, b)
		if !equal(times, whole.Of(c.times)) || !equal(left, whole.Of(c.left)) {
			t.Errorf("P2.2: Euclid(%d, %d): %v, %v", c.a, c.b, times, left)
		}
	}
}

// TestDivisionsAsTold goes by the promise's words: between what bounds the rest
// lies, and that it is what is left.
func TestDivisionsAsTold(t *testing.T) {
	for a := int64(-30); a <= 30; a++ {
		for b := int64(-12); b <= 12; b++ {
			if b == 0 {
				continue
			}
			down, rest := whole.Floor(whole.Of(a), whole.Of(b))
			q, _ := whole.Small(down)
			r, _ := whole.Small(rest)
			if q*b+r != a || b > 0 && (r < 0 || r >= b) || b < 0 && (r > 0 || r <= b) {
				t.Errorf("P2.2: Floor(%d, %d): %d, %d", a, b, q, r)
			}
			times, left := whole.Euclid(whole.Of(a), whole.Of(b))
			q, _ = whole.Small(times)
			r, _ = whole.Small(left)
			if q*b+r != a || r < 0 || r >= max(b, -b) {
				t.Errorf("P2.2: Euclid(%d, %d): %d, %d", a, b, q, r)
			}
		}
	}
}

// TestEdges takes all pairs of what lies at an edge of 64 bits, of a limb, of
// two limbs, and what is one beyond.
func TestEdges(t *testing.T) {
	var edges []api.Int
	for _, text := range []string{"0", "1", "2", "3", "499999999", "500000000", "999999999", "1000000000", "1000000001", "999999999999999999", "1000000000000000000", "9223372036854775806", "9223372036854775807", "9223372036854775808", "9223372036854775809", "18446744073709551615", "18446744073709551616", "18446744073709551617"} {
		a := integer(big10(text))
		edges = append(edges, a)
		if text != "0" {
			edges = append(edges, minus(a.Mag...))
		}
	}
	for _, a := range edges {
		for _, b := range edges {
			check(t, a, b)
		}
	}
}

func TestAsNumbers(t *testing.T) {
	r := rand.New(rand.NewSource(2))
	for range 20000 {
		check(t, some(r, 8), some(r, 5))
	}
	for range 300 {
		check(t, some(r, 150), some(r, 90))
	}
}

// TestDivisionsNearby divides what is just below, at and above b times a number.
func TestDivisionsNearby(t *testing.T) {
	one := whole.Of(1)
	r := rand.New(rand.NewSource(3))
	for range 3000 {
		b := some(r, 4)
		a := whole.Mul(b, some(r, 4))
		check(t, a, b)
		check(t, whole.Add(a, one), b)
		check(t, whole.Sub(a, one), b)
	}
}

// TestLong takes integers far beyond MaxLimbs: Add and its like have no bound.
func TestLong(t *testing.T) {
	long := []api.Int{
		plus(slices.Repeat([]uint32{last}, api.MaxLimbs)...),
		minus(append(make([]uint32, api.MaxLimbs), 1)...),
		minus(slices.Repeat([]uint32{last}, 700)...),
		plus(append(make([]uint32, 1000), 1)...),
		minus(slices.Repeat([]uint32{7, 0, last}, 200)...),
		plus(1),
		minus(1),
		{},
	}
	for _, a := range long {
		for _, b := range long {
			check(t, a, b)
		}
	}
}

func TestLaws(t *testing.T) {
	r := rand.New(rand.NewSource(4))
	for range 3000 {
		a, b, c := some(r, 6), some(r, 6), some(r, 4)
		both := whole.Add(a, b)
		if got := whole.Sub(both, b); !equal(got, a) {
			t.Fatalf("P2.3: %v and %v, less the latter: %v", a, b, got)
		}
		if !equal(whole.Sub(a, b), whole.Neg(whole.Sub(b, a))) || !equal(whole.Neg(whole.Neg(a)), a) {
			t.Fatalf("P2.3: %v and %v the other way round", a, b)
		}
		if !equal(whole.Mul(both, c), whole.Add(whole.Mul(a, c), whole.Mul(b, c))) {
			t.Fatalf("P2.3: %v and %v, times %v: %v", a, b, c, whole.Mul(both, c))
		}
		if !equal(whole.Mul(whole.Mul(a, b), c), whole.Mul(a, whole.Mul(b, c))) {
			t.Fatalf("P2.3: %v times %v times %v", a, b, c)
		}
		if whole.Cmp(a, b) != whole.Sign(whole.Sub(a, b)) || whole.Cmp(a, b) != -whole.Cmp(b, a) {
			t.Fatalf("P2.3: which of %v, %v is less", a, b)
		}
		down, rest := whole.Floor(a, c)
		if !equal(whole.Add(whole.Mul(down, c), rest), a) || whole.Sign(rest) == -whole.Sign(c) && whole.Sign(c) != 0 {
			t.Fatalf("P2.3: %v by %v: %v, %v", a, c, down, rest)
		}
	}
}
