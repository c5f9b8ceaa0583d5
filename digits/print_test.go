package digits_test

import (
	"math"
	"math/big"
	"math/rand"
	"slices"
	"strings"
	"testing"

	"mullion/api"
	"mullion/digits"
	"mullion/whole"
)

const last = api.Base - 1

func plus(mag ...uint32) api.Int { return api.Int{Mag: mag} }

func minus(mag ...uint32) api.Int { return api.Int{Neg: true, Mag: mag} }

// wrong gives rows that are no naturals.
func wrong() [][]uint32 {
	return [][]uint32{
		{0},
		{0, 0},
		{5, 0},
		{1, 2, 0},
		{api.Base},
		{api.Base + 7},
		{api.Base, 1},
		{1, api.Base},
		{1, api.Base + 7, 3},
		{math.MaxUint32},
		{7, math.MaxUint32, 7},
		append(slices.Repeat([]uint32{4}, 90), 0),
	}
}

// equal holds both against each other field by field, without the program.
func equal(a, b api.Int) bool { return a.Neg == b.Neg && slices.Equal(a.Mag, b.Mag) }

// some gives a row of at most n limbs, many of them at an edge.
func some(r *rand.Rand, n int) []uint32 {
	edges := []uint32{0, 0, 1, 9, 10, 100000000, 99999999, last}
	out := make([]uint32, r.Intn(n+1))
	for i := range out {
		out[i] = uint32(r.Intn(api.Base))
		if r.Intn(2) == 0 {
			out[i] = edges[r.Intn(len(edges))]
		}
	}
	if len(out) > 0 {
		out[len(out)-1] = max(out[len(out)-1], 1)
	}
	return out
}

// decimal tells what a row is worth: it multiplies, and goes by no digits.
func decimal(a []uint32) string {
	n, base := new(big.Int), big.NewInt(api.Base)
	for _, limb := range slices.Backward(a) {
		n.Mul(n, base).Add(n, big.NewInt(int64(limb)))
	}
	return n.String()
}

func TestNat(t *testing.T) {
	for _, c := range []struct {
		a    []uint32
		want string
	}{
		{nil, "0"},
		{[]uint32{}, "0"},
		{[]uint32{1}, "1"},
		{[]uint32{9}, "9"},
		{[]uint32{10}, "10"},
		{[]uint32{100}, "100"},
		{[]uint32{99999999}, "99999999"},
		{[]uint32{100000000}, "100000000"},
		{[]uint32{last}, "999999999"},
		{[]uint32{0, 1}, "1000000000"},
		{[]uint32{1, 1}, "1000000001"},
		{[]uint32{10, 1}, "1000000010"},
		{[]uint32{99999999, 1}, "1099999999"},
		{[]uint32{100000000, 1}, "1100000000"},
		{[]uint32{last, last}, "999999999999999999"},
		{[]uint32{0, 0, 1}, "1000000000000000000"},
		{[]uint32{7, 0, 12}, "12000000000000000007"},
		{[]uint32{3, 20, 100}, "100000000020000000003"},
		{[]uint32{854775807, 223372036, 9}, "9223372036854775807"},
		{slices.Repeat([]uint32{last}, api.MaxLimbs), strings.Repeat("9", 360)},
		{append(make([]uint32, api.MaxLimbs), 1), "1" + strings.Repeat("0", 360)},
		{append(make([]uint32, 5000), 1), "1" + strings.Repeat("0", 45000)},
	} {
		if got := digits.Nat(c.a); got != c.want {
			t.Errorf("P3.1: Nat(%v): %s, not %s", c.a, got, c.want)
		}
	}
}

func TestPrint(t *testing.T) {
	for _, c := range []struct {
		a    api.Int
		want string
	}{
		{api.Int{}, "0"},
		{plus([]uint32{}...), "0"},
		{plus(5), "5"},
		{minus(5), "(- 5)"},
		{plus(1), "1"},
		{minus(1), "(- 1)"},
		{minus(10), "(- 10)"},
		{plus(last), "999999999"},
		{minus(last), "(- 999999999)"},
		{minus(0, 1), "(- 1000000000)"},
		{minus(1, 1), "(- 1000000001)"},
		{plus(0, 20, 3), "3000000020000000000"},
		{minus(0, 20, 3), "(- 3000000020000000000)"},
		{whole.Of(math.MaxInt64), "9223372036854775807"},
		{whole.Of(math.MinInt64), "(- 9223372036854775808)"},
		{minus(slices.Repeat([]uint32{last}, api.MaxLimbs)...), "(- " + strings.Repeat("9", 360) + ")"},
		{minus(append(make([]uint32, api.MaxLimbs), 1)...), "(- 1" + strings.Repeat("0", 360) + ")"},
	} {
		if got := digits.Print(c.a); got != c.want {
			t.Errorf("P3.1: Print(%v): %s, not %s", c.a, got, c.want)
		}
	}
}

// TestWrongOnes takes what is no natural, and what is no integer.
func TestWrongOnes(t *testing.T) {
	for _, row := range wrong() {
		if got := digits.Nat(row); got != "0" {
			t.Errorf("P3.1: Nat(%v): %s", row, got)
		}
		for _, a := range []api.Int{plus(row...), minus(row...)} {
			if got := digits.Print(a); got != "0" {
				t.Errorf("P3.1: Print(%v): %s", a, got)
			}
		}
	}
	for _, a := range []api.Int{{Neg: true}, {Neg: true, Mag: []uint32{}}} {
		if got := digits.Print(a); got != "0" {
			t.Errorf("P3.1: Print(%v): %s", a, got)
		}
	}
}

func TestPrintAsNumbers(t *testing.T) {
	r := rand.New(rand.NewSource(1))
	for range 3000 {
		row := some(r, 12)
		want := decimal(row)
		if got := digits.Nat(row); got != want {
			t.Fatalf("P3.1: Nat(%v): %s, not %s", row, got, want)
		}
		if got := digits.Print(plus(row...)); got != want {
			t.Fatalf("P3.1: Print(%v): %s, not %s", row, got, want)
		}
		if len(row) == 0 {
			continue
		}
		if got := digits.Print(minus(row...)); got != "(- "+want+")" {
			t.Fatalf("P3.1: Print of %v below 0: %s", row, got)
		}
	}
}
