package lin_test

import (
	"fmt"
	"math"
	"math/big"
	"math/rand"
	"slices"
	"strconv"
	"strings"
	"testing"

	"mullion/api"
	"mullion/lin"
	"mullion/whole"
)

const last = api.Base - 1

func plus(mag ...uint32) api.Int { return api.Int{Mag: mag} }

func minus(mag ...uint32) api.Int { return api.Int{Neg: true, Mag: mag} }

// number tells what an integer is worth. It goes by its digits, nine a limb.
func number(a api.Int) *big.Int {
	var text strings.Builder
	if a.Neg {
		text.WriteString("-")
	}
	text.WriteString("0")
	for _, limb := range slices.Backward(a.Mag) {
		fmt.Fprintf(&text, "%09d", limb)
	}
	n, ok := new(big.Int).SetString(text.String(), 10)
	if !ok {
		panic("no number: " + text.String())
	}
	return n
}

// integer gives n as an api.Int, likewise.
func integer(n *big.Int) api.Int {
	out := api.Int{Neg: n.Sign() < 0}
	for text := new(big.Int).Abs(n).String(); text != "" && text != "0"; {
		place := max(len(text)-9, 0)
		limb, _ := strconv.ParseUint(text[place:], 10, 32)
		out.Mag = append(out.Mag, uint32(limb))
		text = text[:place]
	}
	return out
}

func small(n int64) api.Int { return integer(big.NewInt(n)) }

func smalls(l ...int64) []api.Int {
	var out []api.Int
	for _, n := range l {
		out = append(out, small(n))
	}
	return out
}

// form gives a form: a number, and how often each variable is there, from
// variable 0 on.
func form(k int64, coefs ...int64) api.Lin {
	out := api.Lin{K: small(k)}
	for v, c := range coefs {
		if c != 0 {
			out.T = append(out.T, times(v, c))
		}
	}
	return out
}

func times(v int, c int64) api.Mono { return api.Mono{V: v, C: small(c)} }

// of gives what may be no form: the number 3, and these.
func of(l ...api.Mono) api.Lin { return api.Lin{T: l, K: plus(3)} }

// same and equal hold both against each other field by field, without the
// program.
func same(a, b api.Int) bool { return a.Neg == b.Neg && slices.Equal(a.Mag, b.Mag) }

func equal(a, b api.Lin) bool {
	return same(a.K, b.K) && slices.EqualFunc(a.T, b.T, func(m, n api.Mono) bool { return m.V == n.V && same(m.C, n.C) })
}

// wrongInts gives what is no integer.
func wrongInts() []api.Int {
	out := []api.Int{{Neg: true}, {Neg: true, Mag: []uint32{}}}
	for _, mag := range [][]uint32{{0}, {0, 0}, {6, 0}, {api.Base}, {api.Base + 6}, {6, api.Base}, {api.Base, 1}, {math.MaxUint32}} {
		out = append(out, plus(mag...), minus(slices.Clone(mag)...))
	}
	return out
}

// wrongs gives what is no form.
func wrongs() []api.Lin {
	out := []api.Lin{
		of(times(1, 5), times(1, 6)),
		of(times(1, 5), times(1, -5)),
		of(times(0, 5), times(0, 5)),
		of(times(2, 5), times(1, 6)),
		of(times(1, 5), times(0, 6)),
		of(times(0, 1), times(2, 1), times(1, 1)),
		of(times(0, 1), times(2, 1), times(3, 1), times(3, 1)),
		of(times(math.MaxInt, 1), times(0, 1)),
		of(times(math.MaxInt, 1), times(math.MaxInt, 1)),
		of(times(math.MaxInt, 1), times(math.MinInt, 1)),
		of(times(-1, 5)),
		of(times(-1, 5), times(0, 6)),
		of(times(-2, 5), times(-1, 6)),
		of(times(0, 5), times(-1, 6)),
		of(times(math.MinInt, 5)),
		of(times(0, 0)),
		of(times(0, 5), times(1, 0)),
		of(times(0, 0), times(1, 5)),
		of(api.Mono{V: 1, C: api.Int{Mag: []uint32{}}}),
	}
	for _, bad := range wrongInts() {
		out = append(out,
			api.Lin{K: bad},
			api.Lin{T: []api.Mono{times(0, 5)}, K: bad},
			of(api.Mono{V: 0, C: bad}),
			of(times(0, 5), api.Mono{V: 1, C: bad}),
			of(api.Mono{V: 0, C: bad}, times(1, 5)))
	}
	return out
}

// ones gives forms, each another one.
func ones() []api.Lin {
	return []api.Lin{
		form(0), form(1), form(-1), form(7),
		form(0, 1), form(0, -1), form(0, 2), form(5, 1), form(-5, 1),
		form(0, 0, 1), form(0, 1, 1), form(0, 1, -1), form(0, -1, 1), form(3, 1, 0, -2), form(3, 1, -2), form(3, 1, 0, 2), form(-3, 1, 0, -2),
		form(12, 6, 0, -4, 0, 10), form(0, 6, 0, -4, 0, 10),
		{K: plus(0, 1)}, {K: minus(last)}, {K: plus(7, 8, 9)}, {K: minus(7, 8, 9)},
		{T: []api.Mono{{V: 3, C: plus(0, 1)}}}, {T: []api.Mono{{V: 3, C: minus(last, last, last)}}, K: plus(last, last)},
		{T: []api.Mono{times(math.MaxInt, 1)}}, {T: []api.Mono{times(0, 4), times(math.MaxInt-1, 1), times(math.MaxInt, -1)}, K: plus(2)},
	}
}

func TestIs(t *testing.T) {
	for _, l := range append(ones(), api.Lin{}, api.Lin{T: []api.Mono{}}, api.Lin{K: api.Int{Mag: []uint32{}}}) {
		if !lin.Is(l) {
			t.Errorf("P6.1: Is(%v): false", l)
		}
	}
	for _, l := range wrongs() {
		if lin.Is(l) {
			t.Errorf("P6.1: Is(%v): true", l)
		}
	}
}

func TestConst(t *testing.T) {
	for _, k := range []api.Int{{}, {Mag: []uint32{}}, plus(1), minus(1), plus(4), minus(0, 1), plus(7, 8, 9), minus(slices.Repeat([]uint32{last}, 90)...)} {
		if got := lin.Const(k); !equal(got, api.Lin{K: k}) {
			t.Errorf("P6.1: Const(%v): %v", k, got)
		}
	}
	for _, bad := range wrongInts() {
		if got := lin.Const(bad); !equal(got, api.Lin{}) {
			t.Errorf("P6.1: Const(%v): %v", bad, got)
		}
	}
}

func TestVar(t *testing.T) {
	for _, c := range []struct{ v, want int }{{0, 0}, {1, 1}, {2, 2}, {39, 39}, {40, 40}, {1000000, 1000000}, {math.MaxInt, math.MaxInt}, {-1, 0}, {-9, 0}, {math.MinInt, 0}} {
		if got := lin.Var(c.v); !equal(got, api.Lin{T: []api.Mono{times(c.want, 1)}}) {
			t.Errorf("P6.1: Var(%d): %v", c.v, got)
		}
	}
}

func TestSame(t *testing.T) {
	for i, a := range ones() {
		for j, b := range ones() {
			if lin.Same(a, b) != (i == j) {
				t.Errorf("P6.1: Same(%v, %v): %t", a, b, i != j)
			}
		}
	}
	for _, bad := range wrongs() {
		if !lin.Same(bad, api.Lin{}) || !lin.Same(api.Lin{}, bad) || !lin.Same(bad, bad) || lin.Same(bad, form(3)) || lin.Same(form(0, 5), bad) {
			t.Errorf("P6.1: %v is the same as 0, and nothing else", bad)
		}
	}
	if !lin.Same(api.Lin{T: []api.Mono{}, K: api.Int{Mag: []uint32{}}}, api.Lin{}) {
		t.Error("P6.1: lists without anything are the same")
	}
	if !lin.Same(wrongs()[0], wrongs()[4]) {
		t.Error("P6.1: what is no form is the same as another such one")
	}
}

func TestCoef(t *testing.T) {
	a := form(9, 6, 0, -4, 0, 10)
	a.T = append(a.T, api.Mono{V: 7, C: minus(7, 8, 9)}, times(math.MaxInt, 3))
	for _, c := range []struct {
		v    int
		want api.Int
	}{{0, plus(6)}, {1, api.Int{}}, {2, minus(4)}, {3, api.Int{}}, {4, plus(10)}, {5, api.Int{}}, {6, api.Int{}}, {7, minus(7, 8, 9)}, {8, api.Int{}}, {math.MaxInt - 1, api.Int{}}, {math.MaxInt, plus(3)}, {-1, api.Int{}}, {math.MinInt, api.Int{}}} {
		if got := lin.Coef(a, c.v); !same(got, c.want) {
			t.Errorf("P6.1: Coef(%v, %d): %v", a, c.v, got)
		}
	}
	for _, l := range append(wrongs(), form(5), form(0), api.Lin{}) {
		for v := -2; v < 4; v++ {
			if got := lin.Coef(l, v); !same(got, api.Int{}) {
				t.Errorf("P6.1: Coef(%v, %d): %v", l, v, got)
			}
		}
	}
}

// TestCoefOfMany looks for each variable of forms of all lengths, and for those
// between.
func TestCoefOfMany(t *testing.T) {
	for n := range 45 {
		var a api.Lin
		for i := range n {
			a.T = append(a.T, times(2*i+1, int64(i+1)))
		}
		for v := -1; v <= 2*n+2; v++ {
			want := api.Int{}
			if v > 0 && v < 2*n && v%2 == 1 {
				want = small(int64(v/2 + 1))
			}
			if got := lin.Coef(a, v); !same(got, want) {
				t.Errorf("P6.1: Coef of variable %d, of %d: %v", v, n, got)
			}
		}
	}
}

func TestGcd(t *testing.T) {
	for _, c := range []struct {
		a    api.Lin
		want api.Int
	}{
		{form(0), api.Int{}},
		{form(5), api.Int{}},
		{form(-12), api.Int{}},
		{form(5, 6, 0, -4), plus(2)},
		{form(0, -7), plus(7)},
		{form(3, -1), plus(1)},
		{form(4, 3, 5), plus(1)},
		{form(1, 12, -18, 0, 30), plus(6)},
		{form(1, 30, 42, 70), plus(2)},
		{form(1, 6, 10, 15), plus(1)},
		{form(0, -8, -8, -8), plus(8)},
		{api.Lin{T: []api.Mono{{V: 0, C: plus(0, 0, 6)}, {V: 9, C: minus(0, 9)}}, K: plus(1)}, plus(0, 3)},
		{api.Lin{T: []api.Mono{{V: 5, C: minus(7, 8, 9)}}, K: plus(1)}, plus(7, 8, 9)},
	} {
		if got := lin.Gcd(c.a); !same(got, c.want) {
			t.Errorf("P6.2: Gcd(%v): %v", c.a, got)
		}
	}
	for _, bad := range wrongs() {
		if got := lin.Gcd(bad); !same(got, api.Int{}) {
			t.Errorf("P6.2: Gcd(%v): %v", bad, got)
		}
	}
}

func TestGcdAsNumbers(t *testing.T) {
	r := rand.New(rand.NewSource(1))
	for range 1000 {
		a := lin.Scale(some(r, 6, 3), someInt(r, 2))
		want := new(big.Int)
		for _, m := range a.T {
			want.GCD(nil, nil, want, new(big.Int).Abs(number(m.C)))
		}
		if got := lin.Gcd(a); !same(got, integer(want)) || !whole.Is(got) {
			t.Fatalf("P6.2: Gcd(%v): %v", a, got)
		}
	}
}
