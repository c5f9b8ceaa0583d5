package nat_test

import (
	"math/big"
	"math/rand"
	"slices"
	"testing"

	"mullion/api"
	"mullion/nat"
)

// check holds all calls of a and b, two naturals, against numbers.
func check(t *testing.T, a, b []uint32) {
	t.Helper()
	x, y := number(a), number(b)
	less := new(big.Int).Sub(x, y)
	if less.Sign() < 0 {
		less.SetInt64(0)
	}
	quotient, left := new(big.Int), x
	if y.Sign() > 0 {
		quotient, left = new(big.Int).QuoRem(x, y, new(big.Int))
	}
	gotQuotient, gotLeft := nat.Div(a, b)
	for _, c := range []struct {
		call string
		got  []uint32
		want *big.Int
	}{
		{"Add", nat.Add(a, b), new(big.Int).Add(x, y)},
		{"Sub", nat.Sub(a, b), less},
		{"Mul", nat.Mul(a, b), new(big.Int).Mul(x, y)},
		{"Div", gotQuotient, quotient},
		{"Div: what is left", gotLeft, left},
	} {
		if want := row(c.want); !slices.Equal(c.got, want) {
			t.Fatalf("P1.2: %s of %v, %v: %v, not %v", c.call, a, b, c.got, want)
		}
	}
	if nat.Cmp(a, b) != x.Cmp(y) {
		t.Fatalf("P1.1: Cmp(%v, %v): %d", a, b, nat.Cmp(a, b))
	}
	if nat.Even(a) != (x.Bit(0) == 0) {
		t.Fatalf("P1.1: Even(%v): %t", a, nat.Even(a))
	}
}

func TestAdd(t *testing.T) {
	for _, c := range []struct{ a, b, want []uint32 }{
		{nil, nil, nil},
		{nil, []uint32{5}, []uint32{5}},
		{[]uint32{5}, []uint32{}, []uint32{5}},
		{[]uint32{last}, []uint32{1}, []uint32{0, 1}},
		{[]uint32{last, last}, []uint32{1}, []uint32{0, 0, 1}},
		{[]uint32{last, last}, []uint32{last, last}, []uint32{last - 1, last, 1}},
		{[]uint32{1, 2, 3}, []uint32{4, 5}, []uint32{5, 7, 3}},
	} {
		if got := nat.Add(c.a, c.b); !slices.Equal(got, c.want) {
			t.Errorf("P1.2: Add(%v, %v): %v", c.a, c.b, got)
		}
		if got := nat.Add(c.b, c.a); !slices.Equal(got, c.want) {
			t.Errorf("P1.2: Add(%v, %v): %v", c.b, c.a, got)
		}
	}
}

func TestSub(t *testing.T) {
	for _, c := range []struct{ a, b, want []uint32 }{
		{nil, nil, nil},
		{[]uint32{5}, nil, []uint32{5}},
		{nil, []uint32{5}, nil},
		{[]uint32{5}, []uint32{6}, nil},
		{[]uint32{last}, []uint32{0, 1}, nil},
		{[]uint32{5, 1}, []uint32{6, 1}, nil},
		{[]uint32{5, 1}, []uint32{5, 1}, nil},
		{[]uint32{0, 1}, []uint32{1}, []uint32{last}},
		{[]uint32{0, 0, 1}, []uint32{1}, []uint32{last, last}},
		{[]uint32{0, 5}, []uint32{1, 2}, []uint32{last, 2}},
		{[]uint32{0, 0, 5}, []uint32{1, last, 2}, []uint32{last, 0, 2}},
		{[]uint32{7, 8, 9}, []uint32{6, 8, 9}, []uint32{1}},
	} {
		if got := nat.Sub(c.a, c.b); !slices.Equal(got, c.want) {
			t.Errorf("P1.2: Sub(%v, %v): %v", c.a, c.b, got)
		}
	}
}

func TestMul(t *testing.T) {
	for _, c := range []struct{ a, b, want []uint32 }{
		{nil, nil, nil},
		{nil, []uint32{5}, nil},
		{[]uint32{1}, []uint32{5, 6}, []uint32{5, 6}},
		{[]uint32{last}, []uint32{last}, []uint32{1, last - 1}},
		{[]uint32{last, last}, []uint32{last, last}, []uint32{1, 0, last - 1, last}},
		{[]uint32{0, 1}, []uint32{0, 0, 3}, []uint32{0, 0, 0, 3}},
		{[]uint32{api.Base / 2}, []uint32{2}, []uint32{0, 1}},
	} {
		if got := nat.Mul(c.a, c.b); !slices.Equal(got, c.want) {
			t.Errorf("P1.2: Mul(%v, %v): %v", c.a, c.b, got)
		}
		if got := nat.Mul(c.b, c.a); !slices.Equal(got, c.want) {
			t.Errorf("P1.2: Mul(%v, %v): %v", c.b, c.a, got)
		}
	}
}

func TestDiv(t *testing.T) {
	for _, c := range []struct{ a, b, quotient, left []uint32 }{
		{nil, nil, nil, nil},
		{nil, []uint32{5}, nil, nil},
		{[]uint32{5}, nil, nil, []uint32{5}},
		{[]uint32{5, 6, 7}, []uint32{}, nil, []uint32{5, 6, 7}},
		{[]uint32{5}, []uint32{5}, []uint32{1}, nil},
		{[]uint32{5}, []uint32{6}, nil, []uint32{5}},
		{[]uint32{7}, []uint32{2}, []uint32{3}, []uint32{1}},
		{[]uint32{5, 6}, []uint32{1}, []uint32{5, 6}, nil},
		{[]uint32{0, 1}, []uint32{2}, []uint32{api.Base / 2}, nil},
		{[]uint32{5, 6}, []uint32{5, 7}, nil, []uint32{5, 6}},
		{[]uint32{4, 6}, []uint32{5, 6}, nil, []uint32{4, 6}},
		{[]uint32{last, last}, []uint32{0, 1}, []uint32{last}, []uint32{last}},
		{[]uint32{0, 0, 1}, []uint32{0, 1}, []uint32{0, 1}, nil},
		{[]uint32{0, 0, 1}, []uint32{last}, []uint32{1, 1}, []uint32{1}},
		{[]uint32{0, 0, 0, 1}, []uint32{last, last}, []uint32{0, 1}, []uint32{0, 1}},
		{[]uint32{5, 0, 1}, []uint32{1, 1}, []uint32{last}, []uint32{6}},
	} {
		quotient, left := nat.Div(c.a, c.b)
		if !slices.Equal(quotient, c.quotient) || !slices.Equal(left, c.left) {
			t.Errorf("P1.2: Div(%v, %v): %v, %v", c.a, c.b, quotient, left)
		}
	}
}

// TestDivNearby divides what is just below, at and above b times a number: there
// a digit is most easily taken for one too much, or one too little.
func TestDivNearby(t *testing.T) {
	one := nat.Of(1)
	r := rand.New(rand.NewSource(2))
	for _, b := range [][]uint32{{1, 1}, {last, 1}, {last, 0, 1}, {last, last, 1}, {last, last, 0, 1}, {0, 0, 1}, {1, 0, 1}, {last, last, last}, {0, api.Base / 2}, {last, api.Base/2 - 1}} {
		for range 500 {
			a := nat.Mul(b, some(r, 5))
			check(t, a, b)
			check(t, nat.Add(a, one), b)
			check(t, nat.Sub(a, one), b)
			check(t, nat.Add(a, nat.Sub(b, one)), b)
		}
	}
}

func TestAsNumbers(t *testing.T) {
	r := rand.New(rand.NewSource(3))
	for range 20000 {
		check(t, some(r, 8), some(r, 5))
	}
	for range 500 {
		check(t, some(r, 100), some(r, 60))
	}
}

func TestSmallNumbers(t *testing.T) {
	edges := []uint64{0, 1, 2, 3, last - 1, last, api.Base, api.Base + 1, 2*api.Base - 1, 2 * api.Base, api.Base*api.Base - 1, api.Base * api.Base, 1<<64 - 1}
	for _, a := range edges {
		for _, b := range edges {
			check(t, nat.Of(a), nat.Of(b))
		}
	}
}

// TestLong takes rows far beyond MaxLimbs: there is no bound on limbs.
func TestLong(t *testing.T) {
	r := rand.New(rand.NewSource(4))
	lengths := []int{1, 2, 31, 32, 33, api.MaxLimbs, api.MaxLimbs + 1, 63, 64, 65, 127, 128, 129, 130, 257, 700}
	for _, m := range lengths {
		for _, n := range lengths {
			for _, a := range rows(r, m) {
				for _, b := range rows(r, n) {
					check(t, a, b)
				}
			}
		}
	}
	check(t, slices.Repeat([]uint32{last}, 20000), slices.Repeat([]uint32{last}, 70))
	check(t, power(20000), slices.Repeat([]uint32{last}, 3000))
}

// rows gives naturals of n limbs: full, nearly empty, and of limbs as they come.
func rows(r *rand.Rand, n int) [][]uint32 {
	mixed := make([]uint32, n)
	for i := range mixed {
		mixed[i] = uint32(r.Intn(api.Base))
	}
	mixed[n-1] |= 1
	gap := slices.Concat(mixed)
	for i := n / 4; i < n-1; i++ {
		gap[i] = 0
	}
	return [][]uint32{mixed, gap, power(n - 1), slices.Repeat([]uint32{last}, n)}
}

func TestLaws(t *testing.T) {
	r := rand.New(rand.NewSource(5))
	for range 3000 {
		a, b, c := some(r, 7), some(r, 7), some(r, 4)
		both := nat.Add(a, b)
		if got := nat.Sub(both, b); !slices.Equal(got, a) {
			t.Fatalf("P1.3: %v and %v, less the latter: %v", a, b, got)
		}
		if !slices.Equal(nat.Mul(both, c), nat.Add(nat.Mul(a, c), nat.Mul(b, c))) {
			t.Fatalf("P1.3: %v and %v, times %v: %v", a, b, c, nat.Mul(both, c))
		}
		if !slices.Equal(nat.Mul(nat.Mul(a, b), c), nat.Mul(a, nat.Mul(b, c))) {
			t.Fatalf("P1.3: %v times %v times %v", a, b, c)
		}
		quotient, left := nat.Div(a, c)
		if !slices.Equal(nat.Add(nat.Mul(quotient, c), left), a) {
			t.Fatalf("P1.3: %v by %v: %v, %v", a, c, quotient, left)
		}
		if len(c) > 0 && nat.Cmp(left, c) >= 0 {
			t.Fatalf("P1.3: %v by %v leaves %v", a, c, left)
		}
	}
}
