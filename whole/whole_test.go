package whole_test

import (
	"fmt"
	"math"
	"math/big"
	"math/rand"
	"slices"
	"strconv"
	"strings"
	"testing"

	"mullion/api"
	"mullion/whole"
)

const last = api.Base - 1

func plus(mag ...uint32) api.Int { return api.Int{Mag: mag} }

func minus(mag ...uint32) api.Int { return api.Int{Neg: true, Mag: mag} }

// wrong gives what is no integer.
func wrong() []api.Int {
	out := []api.Int{{Neg: true}, {Neg: true, Mag: []uint32{}}}
	for _, mag := range [][]uint32{
		{0},
		{0, 0},
		{5, 0},
		{1, 2, 0},
		{api.Base},
		{api.Base + 7},
		{api.Base, 1},
		{1, api.Base},
		{1, api.Base + 7, 3},
		{math.MaxUint32},
		{7, math.MaxUint32, 7},
		append(slices.Repeat([]uint32{4}, 90), 0),
	} {
		out = append(out, plus(mag...), minus(slices.Clone(mag)...))
	}
	return out
}

// big10 gives what a text of digits tells.
func big10(text string) *big.Int {
	n, ok := new(big.Int).SetString(text, 10)
	if !ok {
		panic("no number: " + text)
	}
	return n
}

// number tells what an integer is worth. It goes by its digits, nine a limb.
func number(a api.Int) *big.Int {
	var text strings.Builder
	if a.Neg {
		text.WriteString("-")
	}
	text.WriteString("0")
	for _, limb := range slices.Backward(a.Mag) {
		fmt.Fprintf(&text, "%09d", limb)
	}
	return big10(text.String())
}

// integer gives n as an api.Int, likewise.
func integer(n *big.Int) api.Int {
	out := api.Int{Neg: n.Sign() < 0}
	for text := new(big.Int).Abs(n).String(); text != "" && text != "0"; {
		place := max(len(text)-9, 0)
		limb, _ := strconv.ParseUint(text[place:], 10, 32)
		out.Mag = append(out.Mag, uint32(limb))
		text = text[:place]
	}
	return out
}

// equal holds both against each other field by field, without the program.
func equal(a, b api.Int) bool { return a.Neg == b.Neg && slices.Equal(a.Mag, b.Mag) }

// some gives an integer of at most n limbs, many of them at an edge.
func some(r *rand.Rand, n int) api.Int {
	edges := []uint32{0, 0, 1, 2, api.Base / 2, last - 1, last, last}
	out := api.Int{Mag: make([]uint32, r.Intn(n+1))}
	for i := range out.Mag {
		out.Mag[i] = uint32(r.Intn(api.Base))
		if r.Intn(2) == 0 {
			out.Mag[i] = edges[r.Intn(len(edges))]
		}
	}
	if len(out.Mag) > 0 {
		out.Mag[len(out.Mag)-1] = max(out.Mag[len(out.Mag)-1], 1)
		out.Neg = r.Intn(2) == 0
	}
	return out
}

func TestIs(t *testing.T) {
	right := []api.Int{{}, {Mag: []uint32{}}, plus(1), minus(1), plus(last), minus(last), plus(0, 1), minus(0, 1), plus(0, 0, 1), minus(last, last, last), minus(append(make([]uint32, 3000), 1)...)}
	for _, a := range right {
		if !whole.Is(a) {
			t.Errorf("P2.1: %v is an integer", a)
		}
	}
	for _, a := range wrong() {
		if whole.Is(a) {
			t.Errorf("P2.1: %v is no integer", a)
		}
	}
}

func TestOf(t *testing.T) {
	for _, c := range []struct {
		n    int64
		want api.Int
	}{
		{0, api.Int{}},
		{1, plus(1)},
		{-1, minus(1)},
		{last, plus(last)},
		{-last, minus(last)},
		{api.Base, plus(0, 1)},
		{-api.Base, minus(0, 1)},
		{-1000000001, minus(1, 1)},
		{math.MaxInt32, plus(147483647, 2)},
		{math.MinInt32, minus(147483648, 2)},
		{math.MaxInt64, plus(854775807, 223372036, 9)},
		{-math.MaxInt64, minus(854775807, 223372036, 9)},
		{math.MinInt64, minus(854775808, 223372036, 9)},
	} {
		if got := whole.Of(c.n); !equal(got, c.want) || !whole.Is(got) {
			t.Errorf("P2.1: Of(%d): %v, not %v", c.n, got, c.want)
		}
	}
}

func TestSmall(t *testing.T) {
	for _, c := range []struct {
		a    api.Int
		want int64
		fits bool
	}{
		{api.Int{}, 0, true},
		{plus(5), 5, true},
		{minus(5), -5, true},
		{minus(1, 1), -1000000001, true},
		{plus(last, last), api.Base*api.Base - 1, true},
		{minus(0, 0, 9), -9 * api.Base * api.Base, true},
		{plus(854775806, 223372036, 9), math.MaxInt64 - 1, true},
		{plus(854775807, 223372036, 9), math.MaxInt64, true},
		{plus(854775808, 223372036, 9), 0, false},
		{minus(854775807, 223372036, 9), -math.MaxInt64, true},
		{minus(854775808, 223372036, 9), math.MinInt64, true},
		{minus(854775809, 223372036, 9), 0, false},
		{plus(854775806, 223372037, 9), 0, false},
		{minus(0, 0, 10), 0, false},
		{plus(709551615, 446744073, 18), 0, false}, // the greatest of 64 bits
		{plus(709551616, 446744073, 18), 0, false},
		{plus(709551617, 446744073, 18), 0, false}, // 1, if 64 bits wrapped round
		{minus(709551617, 446744073, 18), 0, false},
		{plus(0, 0, 0, 1), 0, false},
		{minus(5, 0, 0, 1), 0, false},
		{minus(append(make([]uint32, 300), 1)...), 0, false},
	} {
		if got, fits := whole.Small(c.a); got != c.want || fits != c.fits {
			t.Errorf("P2.1: Small(%v): %d, %t", c.a, got, fits)
		}
	}
	r := rand.New(rand.NewSource(1))
	for range 5000 {
		n := int64(r.Uint64()) >> r.Intn(64)
		a := whole.Of(n)
		if got, fits := whole.Small(a); got != n || !fits || !equal(a, integer(big.NewInt(n))) {
			t.Fatalf("P2.1: %d: %v, then %d, %t", n, a, got, fits)
		}
		b := some(r, 4)
		if got, fits := whole.Small(b); fits != number(b).IsInt64() || fits && got != number(b).Int64() || !fits && got != 0 {
			t.Fatalf("P2.1: Small(%v): %d, %t", b, got, fits)
		}
	}
}

func TestSign(t *testing.T) {
	for _, c := range []struct {
		a    api.Int
		want int
	}{{api.Int{}, 0}, {api.Int{Mag: []uint32{}}, 0}, {plus(1), 1}, {minus(1), -1}, {plus(0, 1), 1}, {minus(0, 1), -1}, {minus(last, last, last), -1}, {plus(0, 0, 0, 0, 7), 1}} {
		if got := whole.Sign(c.a); got != c.want {
			t.Errorf("P2.1: Sign(%v): %d", c.a, got)
		}
	}
}

func TestCmp(t *testing.T) {
	rising := []api.Int{minus(append(make([]uint32, 100), 1)...), minus(1, 0, 1), minus(0, 0, 1), minus(last, last), minus(1, 2), minus(0, 2), minus(last, 1), minus(0, 1), minus(last), minus(2), minus(1), {}, plus(1), plus(2), plus(last), plus(0, 1), plus(last, 1), plus(0, 2), plus(1, 2), plus(last, last), plus(0, 0, 1), plus(1, 0, 1), plus(append(make([]uint32, 100), 1)...)}
	for i, a := range rising {
		for j, b := range rising {
			want := 0
			if i < j {
				want = -1
			}
			if i > j {
				want = 1
			}
			b.Mag = slices.Clone(b.Mag)
			if got := whole.Cmp(a, b); got != want {
				t.Errorf("P2.1: Cmp(%v, %v): %d, not %d", a, b, got, want)
			}
			if got := whole.Same(a, b); got != (i == j) {
				t.Errorf("P2.1: Same(%v, %v): %t", a, b, got)
			}
		}
	}
	if empty := (api.Int{Mag: []uint32{}}); whole.Cmp(empty, api.Int{}) != 0 || !whole.Same(api.Int{}, empty) {
		t.Error("P2.1: a nil Mag and an empty one are both 0")
	}
}
