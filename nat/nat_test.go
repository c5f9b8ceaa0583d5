package nat_test

import (
	"fmt"
	"math"
	"math/big"
	"math/rand"
	"slices"
	"strconv"
	"strings"
	"testing"

	"mullion/api"
	"mullion/nat"
)

const last = api.Base - 1

// wrong rows are no naturals.
var wrong = [][]uint32{
	{0},
	{0, 0},
	{5, 0},
	{1, 2, 0},
	{api.Base},
	{api.Base, 1},
	{1, api.Base},
	{1, api.Base + 7, 3},
	{math.MaxUint32},
	{7, math.MaxUint32, 7},
	append(slices.Repeat([]uint32{4}, 90), 0),
}

// number tells what a natural is worth. It goes by its digits, nine a limb.
func number(a []uint32) *big.Int {
	var text strings.Builder
	text.WriteString("0")
	for _, limb := range slices.Backward(a) {
		fmt.Fprintf(&text, "%09d", limb)
	}
	n, _ := new(big.Int).SetString(text.String(), 10)
	return n
}

func row(n *big.Int) []uint32 {
	var out []uint32
	for text := n.String(); text != "" && text != "0"; {
		place := max(len(text)-9, 0)
		limb, _ := strconv.ParseUint(text[place:], 10, 32)
		out = append(out, uint32(limb))
		text = text[:place]
	}
	return out
}

// power gives Base to the power of n.
func power(n int) []uint32 { return append(make([]uint32, n), 1) }

// some gives a natural of at most n limbs, many of them at an edge.
func some(r *rand.Rand, n int) []uint32 {
	edges := []uint32{0, 0, 1, 2, api.Base / 2, last - 1, last, last}
	out := make([]uint32, r.Intn(n+1))
	for i := range out {
		out[i] = uint32(r.Intn(api.Base))
		if r.Intn(2) == 0 {
			out[i] = edges[r.Intn(len(edges))]
		}
	}
	if len(out) > 0 {
		out[len(out)-1] = max(out[len(out)-1], 1)
	}
	return out
}

func TestIs(t *testing.T) {
	right := [][]uint32{nil, {}, {1}, {last}, {0, 1}, {0, 0, 1}, {last, last, last}, power(3000)}
	for _, a := range right {
		if !nat.Is(a) {
			t.Errorf("P1.1: %v is a natural", a)
		}
	}
	for _, a := range wrong {
		if nat.Is(a) {
			t.Errorf("P1.1: %v is no natural", a)
		}
	}
	for i := range 100 {
		a := slices.Repeat([]uint32{last}, 100)
		a[i] = api.Base
		if nat.Is(a) {
			t.Errorf("P1.1: limb %d is Base", i)
		}
	}
}

func TestOf(t *testing.T) {
	for _, c := range []struct {
		n    uint64
		want []uint32
	}{
		{0, nil},
		{1, []uint32{1}},
		{last, []uint32{last}},
		{api.Base, []uint32{0, 1}},
		{1000000001, []uint32{1, 1}},
		{math.MaxUint32, []uint32{294967295, 4}},
		{api.Base*api.Base - 1, []uint32{last, last}},
		{api.Base * api.Base, []uint32{0, 0, 1}},
		{math.MaxInt64, []uint32{854775807, 223372036, 9}},
		{math.MaxUint64, []uint32{709551615, 446744073, 18}},
	} {
		if got := nat.Of(c.n); !slices.Equal(got, c.want) {
			t.Errorf("P1.1: Of(%d): %v, not %v", c.n, got, c.want)
		}
	}
	r := rand.New(rand.NewSource(1))
	for range 2000 {
		n := r.Uint64() >> r.Intn(64)
		if got := nat.Of(n); !slices.Equal(got, row(new(big.Int).SetUint64(n))) {
			t.Fatalf("P1.1: Of(%d): %v", n, got)
		}
	}
}

func TestEven(t *testing.T) {
	for _, a := range [][]uint32{nil, {}, {2}, {last - 1}, {0, 1}, {4, 7}, {0, 0, last}, power(100)} {
		if !nat.Even(a) {
			t.Errorf("P1.1: %v is even", a)
		}
	}
	for _, a := range [][]uint32{{1}, {last}, {1, 2}, {7, 0, 4}, append([]uint32{3}, power(100)...)} {
		if nat.Even(a) {
			t.Errorf("P1.1: %v is odd", a)
		}
	}
}

func TestCmp(t *testing.T) {
	rising := [][]uint32{nil, {1}, {2}, {last}, {0, 1}, {1, 1}, {last, 1}, {0, 2}, {1, 2}, {0, last}, {last, last}, {0, 0, 1}, {1, 0, 1}, {0, 1, 1}, {last, last, last}, power(100), append([]uint32{1}, power(99)...), power(101)}
	for i, a := range rising {
		for j, b := range rising {
			want := 0
			if i < j {
				want = -1
			}
			if i > j {
				want = 1
			}
			if got := nat.Cmp(a, slices.Clone(b)); got != want {
				t.Errorf("P1.1: Cmp(%v, %v): %d, not %d", a, b, got, want)
			}
		}
	}
	if nat.Cmp([]uint32{}, nil) != 0 || nat.Cmp(nil, []uint32{}) != 0 {
		t.Error("P1.1: a nil row and an empty one are both 0")
	}
}
