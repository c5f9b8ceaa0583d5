package divs_test

import (
	"math"
	"math/rand"
	"slices"
	"testing"

	"mullion/api"
	"mullion/divs"
	"mullion/term"
	"mullion/value"
	"mullion/whole"
)

// two gives the constants of a division, the first one's name ahead.
func two(quotient string, q int64, left string, r int64) []api.Fun {
	return []api.Fun{constant(quotient, number(q)), constant(left, number(r))}
}

func TestOver(t *testing.T) {
	const i = api.SInt
	at := constant("p", truth(1))
	xs := []api.Fun{constant("x", number(-7)), constant("y", number(23))}
	fs := []api.Fun{function(signature("f", i, i), number(-9), row(number(11), number(-4))), at, xs[0], xs[1]}
	for _, c := range []struct {
		in   api.Term
		m    []api.Fun
		from int
		want []api.Fun
	}{
		{x(), nil, 0, nil},
		{x(), xs, 0, xs},
		{abs(x()), xs, 0, xs},
		{mod(x(), num(2)), nil, 0, two("!0", 0, "!1", 0)},
		{mod(x(), num(2)), xs, 0, append(two("!0", -4, "!1", 1), xs...)},
		{div(x(), num(2)), xs, 0, append(two("!0", -4, "!1", 1), xs...)},
		{div(x(), num(-2)), xs, 0, append(two("!0", 4, "!1", 1), xs...)},
		{mod(x(), sub(num(2))), xs, 12, append(two("!12", 4, "!13", 1), xs...)},
		{mod(x(), sub(num(-2))), xs, 0, append(two("!0", -4, "!1", 1), xs...)},
		{div(x(), num(7)), xs, 0, append(two("!0", -1, "!1", 0), xs...)},
		{div(x(), num(100)), xs, 0, append(two("!0", -1, "!1", 93), xs...)},
		{div(x(), sub(num(100))), xs, 0, append(two("!0", 1, "!1", 93), xs...)},
		{div(y(), num(1)), xs, 0, append(two("!0", 23, "!1", 0), xs...)},
		{div(y(), num(-1)), xs, 0, append(two("!0", -23, "!1", 0), xs...)},
		{div(num(23), num(5)), xs, 0, append(two("!0", 4, "!1", 3), xs...)},
		{div(x(), api.Term{Op: api.ONum, Sort: i, N: long(1)}), []api.Fun{constant("x", far(-1))}, 1, append(two("!1", -1, "!2", 0), constant("x", far(-1)))},
		// one in another, of a function's values
		{mod(f(div(x(), num(2))), num(4)), fs, 0, slices.Concat(two("!0", -4, "!1", 1), two("!2", 2, "!3", 3), fs)},
		{div(mod(div(y(), num(2)), num(7)), sub(num(3))), xs, 0, slices.Concat(two("!0", 11, "!1", 1), two("!2", 1, "!3", 4), two("!4", -1, "!5", 1), xs)},
		{ite(eq(mod(y(), num(2)), num(1)), x(), div(x(), num(3))), xs, 0, slices.Concat(two("!0", 11, "!1", 1), two("!2", -3, "!3", 2), xs)},
		// names rise byte by byte: !10 ahead of !9
		{div(x(), num(2)), xs, 9, append(two("!10", 1, "!9", -4), xs...)},
		{add(div(x(), num(2)), mod(y(), num(5))), xs, 8, slices.Concat(two("!10", 4, "!11", 3), two("!8", -4, "!9", 1), xs)},
		// in the place of whatever has that name
		{div(x(), num(2)), []api.Fun{function(signature("!0", i, i), number(7), row(number(1), number(2))), constant("!1", truth(1)), xs[0]}, 0, append(two("!0", -4, "!1", 1), xs[0])},
		{div(x(), num(2)), []api.Fun{constant("!0", truth(1)), constant("!00", truth(1)), xs[0]}, 0, []api.Fun{constant("!0", number(-4)), constant("!00", truth(1)), constant("!1", number(1)), xs[0]}},
		// both are of what it was ahead of both
		{mod(fresh(0), num(5)), two("!0", 38, "!1", 99), 0, two("!0", 7, "!1", 3)},
		{mod(fresh(1), num(5)), two("!0", 38, "!1", 99), 0, two("!0", 19, "!1", 4)},
		{mod(mod(fresh(2), num(9)), num(4)), []api.Fun{constant("!2", number(26))}, 0, slices.Concat(two("!0", 2, "!1", 8), two("!2", 2, "!3", 0))},
		// of one name what is left, the last of several
		{div(x(), num(2)), xs, -1, append([]api.Fun{constant("!0", number(1))}, xs...)},
		{div(y(), num(5)), xs, math.MinInt, append([]api.Fun{constant("!0", number(3))}, xs...)},
		{add(div(x(), num(2)), div(y(), num(5))), xs, -9, append([]api.Fun{constant("!0", number(3))}, xs...)},
		{add(div(x(), num(2)), div(y(), num(5))), xs, -1, slices.Concat([]api.Fun{constant("!0", number(1))}, two("!1", 4, "!2", 3), xs)},
		{div(mod(y(), num(20)), num(2)), xs, -2, append(two("!0", 1, "!1", 1), xs...)},
		{div(mod(y(), num(20)), num(2)), xs, -3, append([]api.Fun{constant("!0", number(1))}, xs...)},
		{div(x(), num(3)), xs, math.MaxInt, slices.Concat([]api.Fun{constant("!0", number(2)), constant("!9223372036854775807", number(-3))}, xs)},
		// too large
		{div(wide(395), num(2)), xs, 0, xs},
		{mod(add(div(x(), num(2)), wide(393)), num(2)), xs, 0, xs},
		// what is no structure counts as nothing
		{mod(x(), num(5)), []api.Fun{xs[1], xs[0]}, 0, two("!0", 0, "!1", 0)},
		{x(), []api.Fun{xs[1], xs[0]}, 0, nil},
		{api.Term{}, []api.Fun{{}}, 0, nil},
		{div(ite(p(), x(), num(6)), num(4)), []api.Fun{constant("p", truth(2)), xs[0]}, 0, two("!0", 1, "!1", 2)},
	} {
		checkOver(t, c.in, c.m, c.from, c.want)
	}
}

// TestOverSome holds Over against a second reading of the chapter.
func TestOverSome(t *testing.T) {
	r := rand.New(rand.NewSource(4))
	for range 4000 {
		in, m, from := someTerm(r, someSort(r), 4), someStructure(r), pick(r, 0, 0, 2, 9, 1000, -1, -3, math.MaxInt-1, math.MaxInt)
		if !term.Is(in) {
			continue
		}
		want := over(in, m, from)
		if !value.Is(want) {
			t.Fatalf("%s is no structure", outlineFuns(want))
		}
		checkOver(t, in, m, from, want)
	}
}

// TestTrueJustWhere: a term is worth in any structure what Do makes of it is worth
// there with the constants as they are meant; whatever else one of them is, or the
// two of a division are, something that is to hold is false.
func TestTrueJustWhere(t *testing.T) {
	r := rand.New(rand.NewSource(5))
	times := map[string]int{}
	for range 4000 {
		in, m, from := someTerm(r, someSort(r), 4), someStructure(r), pick(r, 11, 20, 1000)
		if !term.Is(in) || !apart(from, in) {
			continue
		}
		out, held, next := divs.Do(in, from)
		with := divs.Over(in, m, from)
		was, is := value.Eval(in, m), value.Eval(out, with)
		if outlineValues(was) != outlineValues(is) || !value.True(held, with) {
			t.Errorf("P14.3: %s is %s in %s; %s is %s in %s", outline(in), outlineValues(was), outlineFuns(m), outline(out), outlineValues(is), outlineFuns(with))
		}
		times[outlineValues(was)]++
		for n := from; n < next; n++ {
			name := fresh(n).Name
			meant := worth(with, name)
			for _, other := range []api.Int{whole.Add(meant, whole.Of(1)), whole.Neg(meant), someNumber(r)} {
				if !whole.Same(other, meant) {
					checkFalse(t, in, held, put(with, name, api.Value{Sort: api.SInt, N: other}))
				}
			}
		}
		_, reads := do(in, from)
		for i, names := range reads.names {
			for _, by := range []int64{-2, -1, 1, 2} {
				checkFalse(t, in, held, otherwise(with, names, reads.divided[i][1], by))
			}
		}
	}
	for _, want := range []api.Value{truth(0), truth(1), number(0), number(1)} {
		if times[outlineValues(want)] < 20 {
			t.Errorf("P14.3: %s came only %d times", outlineValues(want), times[outlineValues(want)])
		}
	}
}

func checkFalse(t *testing.T, in api.Term, held []api.Term, m []api.Fun) {
	t.Helper()
	if value.True(held, m) {
		t.Errorf("P14.3: %s: all holds also in %s, not as meant", outline(in), outlineFuns(m))
	}
}
