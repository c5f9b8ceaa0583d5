package rat_test

import (
	"math/big"
	"math/rand"
	"slices"
	"testing"

	"mullion/api"
	"mullion/rat"
	"mullion/whole"
)

// check holds all calls of a and b, two fractions, against numbers.
func check(t *testing.T, a, b api.Rat) {
	t.Helper()
	x, y := quotient(a), quotient(b)
	divided, errno := rat.Div(a, b)
	byNumbers, wantErrno := new(big.Rat), api.ErrZero
	if y.Sign() != 0 {
		byNumbers, wantErrno = new(big.Rat).Quo(x, y), api.OK
	}
	for _, c := range []struct {
		call string
		got  api.Rat
		want *big.Rat
	}{
		{"Neg", rat.Neg(a), new(big.Rat).Neg(x)},
		{"Add", rat.Add(a, b), new(big.Rat).Add(x, y)},
		{"Sub", rat.Sub(a, b), new(big.Rat).Sub(x, y)},
		{"Mul", rat.Mul(a, b), new(big.Rat).Mul(x, y)},
		{"Div", divided, byNumbers},
	} {
		if want := fraction(c.want); !equal(c.got, want) {
			t.Fatalf("P5.1, P5.2: %s of %v, %v: %v, not %v", c.call, a, b, c.got, want)
		}
		if !rat.Is(c.got) {
			t.Fatalf("P5.1: %s of %v, %v: %v is no fraction", c.call, a, b, c.got)
		}
	}
	if errno != wantErrno {
		t.Fatalf("P5.1: Div(%v, %v): %v", a, b, errno)
	}
	if rat.Cmp(a, b) != x.Cmp(y) || rat.Same(a, b) != (x.Cmp(y) == 0) {
		t.Fatalf("P5.1, P5.2: Cmp(%v, %v): %d", a, b, rat.Cmp(a, b))
	}
	checkRounded(t, a)
}

// checkRounded: big.Int's Div rounds down, where it divides by what is above 0.
func checkRounded(t *testing.T, a api.Rat) {
	t.Helper()
	p, q := number(a.P), number(api.Int{Mag: a.Q})
	down := new(big.Int).Div(p, q)
	up := new(big.Int).Neg(new(big.Int).Div(new(big.Int).Neg(p), q))
	if got := rat.Floor(a); !same(got, integer(down)) {
		t.Fatalf("P5.1: Floor(%v): %v", a, got)
	}
	if got := rat.Ceil(a); !same(got, integer(up)) {
		t.Fatalf("P5.1: Ceil(%v): %v", a, got)
	}
	if rat.Whole(a) != (down.Cmp(up) == 0) {
		t.Fatalf("P5.1: Whole(%v): %t", a, rat.Whole(a))
	}
}

func TestSums(t *testing.T) {
	for _, c := range []struct{ a, b, sum, less, times, by api.Rat }{
		{over(1, 6), over(-3, 4), over(-7, 12), over(11, 12), over(-1, 8), over(-2, 9)},
		{over(1, 2), over(1, 2), over(1, 1), over(0, 1), over(1, 4), over(1, 1)},
		{over(1, 2), over(-1, 2), over(0, 1), over(1, 1), over(-1, 4), over(-1, 1)},
		{over(-1, 2), over(-1, 2), over(-1, 1), over(0, 1), over(1, 4), over(1, 1)},
		{over(0, 1), over(-5, 3), over(-5, 3), over(5, 3), over(0, 1), over(0, 1)},
		{over(2, 3), over(3, 2), over(13, 6), over(-5, 6), over(1, 1), over(4, 9)},
		{over(-2, 3), over(3, 2), over(5, 6), over(-13, 6), over(-1, 1), over(-4, 9)},
		{over(7, 1), over(-2, 1), over(5, 1), over(9, 1), over(-14, 1), over(-7, 2)},
		{over(-6, 1), over(-4, 1), over(-10, 1), over(-2, 1), over(24, 1), over(3, 2)},
		{over(5, 6), over(1, 6), over(1, 1), over(2, 3), over(5, 36), over(5, 1)},
		{over(1, 6), over(1, 10), over(4, 15), over(1, 15), over(1, 60), over(5, 3)},
		{over(1, 1000000000), over(1, 1000000000), over(1, 500000000), over(0, 1), api.Rat{P: plus(1), Q: []uint32{0, 0, 1}}, over(1, 1)},
		{over(999999999, 1000000000), over(1, 1000000000), over(1, 1), over(499999999, 500000000), api.Rat{P: plus(last), Q: []uint32{0, 0, 1}}, over(999999999, 1)},
	} {
		if got := rat.Add(c.a, c.b); !equal(got, c.sum) {
			t.Errorf("P5.1: Add(%v, %v): %v", c.a, c.b, got)
		}
		if got := rat.Sub(c.a, c.b); !equal(got, c.less) {
			t.Errorf("P5.1: Sub(%v, %v): %v", c.a, c.b, got)
		}
		if got := rat.Mul(c.a, c.b); !equal(got, c.times) {
			t.Errorf("P5.1: Mul(%v, %v): %v", c.a, c.b, got)
		}
		if got, errno := rat.Div(c.a, c.b); !equal(got, c.by) || errno != api.OK {
			t.Errorf("P5.1: Div(%v, %v): %v, %v", c.a, c.b, got, errno)
		}
	}
}

func TestNeg(t *testing.T) {
	for _, c := range []struct{ a, want api.Rat }{
		{over(0, 1), over(0, 1)},
		{over(1, 1), over(-1, 1)},
		{over(-3, 2), over(3, 2)},
		{over(3, 2), over(-3, 2)},
		{api.Rat{P: minus(7, 8), Q: []uint32{0, 0, 1}}, api.Rat{P: plus(7, 8), Q: []uint32{0, 0, 1}}},
	} {
		if got := rat.Neg(c.a); !equal(got, c.want) {
			t.Errorf("P5.1: Neg(%v): %v", c.a, got)
		}
	}
}

// TestDivByZero: beside the error stands 0, whatever is divided.
func TestDivByZero(t *testing.T) {
	for _, a := range append(ordered(), wrongs()...) {
		for _, b := range append(wrongs(), over(0, 1), api.Rat{P: api.Int{Mag: []uint32{}}, Q: []uint32{1}}) {
			if got, errno := rat.Div(a, b); !equal(got, over(0, 1)) || errno != api.ErrZero {
				t.Errorf("P5.1: Div(%v, %v): %v, %v", a, b, got, errno)
			}
		}
	}
}

func TestRounded(t *testing.T) {
	for _, c := range []struct {
		a        api.Rat
		down, up api.Int
	}{
		{over(0, 1), api.Int{}, api.Int{}},
		{over(7, 2), plus(3), plus(4)},
		{over(-7, 2), minus(4), minus(3)},
		{over(5, 3), plus(1), plus(2)},
		{over(-5, 3), minus(2), minus(1)},
		{over(4, 3), plus(1), plus(2)},
		{over(-4, 3), minus(2), minus(1)},
		{over(1, 9), api.Int{}, plus(1)},
		{over(-1, 9), minus(1), api.Int{}},
		{over(1, 1), plus(1), plus(1)},
		{over(-1, 1), minus(1), minus(1)},
		{over(2, 1), plus(2), plus(2)},
		{over(-7, 1), minus(7), minus(7)},
		{over(999999999, 1000000000), api.Int{}, plus(1)},
		{over(-999999999, 1000000000), minus(1), api.Int{}},
		{over(-1000000001, 1000000000), minus(2), minus(1)},
		{api.Rat{P: plus(1, 0, 1), Q: []uint32{0, 1}}, plus(0, 1), plus(1, 1)},
		{api.Rat{P: minus(1, 0, 1), Q: []uint32{0, 1}}, minus(1, 1), minus(0, 1)},
		{api.Rat{P: plus(last, last), Q: []uint32{0, 1}}, plus(last), plus(0, 1)},
		{api.Rat{P: minus(last, last), Q: []uint32{0, 1}}, minus(0, 1), minus(last)},
		{api.Rat{P: minus(0, 0, 1), Q: []uint32{1}}, minus(0, 0, 1), minus(0, 0, 1)},
	} {
		if got := rat.Floor(c.a); !same(got, c.down) {
			t.Errorf("P5.1: Floor(%v): %v", c.a, got)
		}
		if got := rat.Ceil(c.a); !same(got, c.up) {
			t.Errorf("P5.1: Ceil(%v): %v", c.a, got)
		}
	}
}

// TestSmall takes all fractions of small parts, two by two.
func TestSmall(t *testing.T) {
	var all []api.Rat
	for p := int64(-5); p <= 5; p++ {
		for q := int64(1); q <= 6; q++ {
			all = append(all, over(p, q))
		}
	}
	for _, a := range all {
		for _, b := range all {
			check(t, a, b)
		}
	}
	for p := int64(-60); p <= 60; p++ {
		for q := int64(1); q <= 12; q++ {
			checkRounded(t, over(p, q))
		}
	}
}

// TestEdges takes all pairs of what lies at an edge of a limb, of two, and of
// 64 bits, above and below, and what is one beyond.
func TestEdges(t *testing.T) {
	for _, a := range ordered() {
		for _, b := range ordered() {
			check(t, a, b)
		}
	}
	var parts []*big.Int
	for _, text := range []string{"1", "2", "999999999", "1000000000", "1000000001", "9223372036854775807", "9223372036854775808", "18446744073709551615", "18446744073709551616", "1000000000000000000"} {
		n, _ := new(big.Int).SetString(text, 10)
		parts = append(parts, n)
	}
	var all []api.Rat
	for _, p := range parts {
		for _, q := range parts {
			a := new(big.Rat).SetFrac(p, q)
			all = append(all, fraction(a), fraction(a.Neg(a)))
		}
	}
	for i, a := range all {
		for j := i % 7; j < len(all); j += 7 {
			check(t, a, all[j])
		}
	}
}

func TestAsNumbers(t *testing.T) {
	r := rand.New(rand.NewSource(2))
	for range 3000 {
		check(t, someOver(r, 2), someOver(r, 2))
		check(t, someOver(r, 5), someOver(r, 3))
	}
	for range 20 {
		check(t, someOver(r, 60), someOver(r, 40))
	}
}

// TestNearby takes fractions that are hardly apart.
func TestNearby(t *testing.T) {
	r := rand.New(rand.NewSource(3))
	for range 1000 {
		a := someOver(r, 4)
		near := quotient(a)
		near.Add(near, new(big.Rat).SetFrac(big.NewInt(int64(r.Intn(3)-1)), new(big.Int).Add(number(some(r, 5)), new(big.Int).Lsh(big.NewInt(1), 160))))
		check(t, a, fraction(near))
	}
}

// TestLong takes parts far beyond MaxLimbs: nothing has a bound.
func TestLong(t *testing.T) {
	long := []api.Int{
		plus(slices.Repeat([]uint32{last}, api.MaxLimbs)...),
		minus(append(make([]uint32, api.MaxLimbs), 1)...),
		minus(slices.Repeat([]uint32{7, 0, last}, 40)...),
		plus(append(make([]uint32, 150), 1)...),
		minus(1),
	}
	var all []api.Rat
	for _, p := range long {
		for _, q := range long {
			all = append(all, rat.Of(p, q))
		}
	}
	for i, a := range all {
		check(t, a, all[(i*7+3)%len(all)])
	}
}

// TestLaws goes by what holds of numbers, whatever they are.
func TestLaws(t *testing.T) {
	r := rand.New(rand.NewSource(4))
	for range 500 {
		a, b, c := someOver(r, 3), someOver(r, 3), someOver(r, 3)
		for i, pair := range [][2]api.Rat{
			{rat.Add(a, b), rat.Add(b, a)},
			{rat.Mul(a, b), rat.Mul(b, a)},
			{rat.Add(rat.Add(a, b), c), rat.Add(a, rat.Add(b, c))},
			{rat.Mul(rat.Mul(a, b), c), rat.Mul(a, rat.Mul(b, c))},
			{rat.Mul(rat.Add(a, b), c), rat.Add(rat.Mul(a, c), rat.Mul(b, c))},
			{rat.Sub(a, b), rat.Neg(rat.Sub(b, a))},
			{rat.Sub(rat.Add(a, b), b), a},
			{rat.Neg(rat.Neg(a)), a},
		} {
			if !equal(pair[0], pair[1]) || !rat.Same(pair[0], pair[1]) {
				t.Fatalf("P5.2: law %d of %v, %v, %v: %v and %v", i, a, b, c, pair[0], pair[1])
			}
		}
		if d, errno := rat.Div(a, b); errno == api.OK && !equal(rat.Mul(d, b), a) {
			t.Fatalf("P5.2: %v by %v: %v", a, b, d)
		}
		if rat.Cmp(a, b) != whole.Sign(rat.Sub(a, b).P) || rat.Cmp(a, b) != -rat.Cmp(b, a) || rat.Cmp(rat.Add(a, c), rat.Add(b, c)) != rat.Cmp(a, b) {
			t.Fatalf("P5.2: %v, %v, %v: Cmp", a, b, c)
		}
		if !same(rat.Ceil(a), whole.Neg(rat.Floor(rat.Neg(a)))) {
			t.Fatalf("P5.2: %v: Ceil, Floor", a)
		}
	}
}
