package lift_test

import (
	"math"
	"math/rand"
	"slices"
	"testing"

	"mullion/api"
	"mullion/lift"
	"mullion/term"
	"mullion/value"
	"mullion/whole"
)

func TestOver(t *testing.T) {
	const i = api.SInt
	at := constant("p", truth(1))
	xs := []api.Fun{constant("x", number(-4)), constant("y", number(3))}
	fs := []api.Fun{function(signature("f", i, i), number(-9), row(number(-2), number(4))), at, xs[0], xs[1]}
	for _, c := range []struct {
		in   api.Term
		m    []api.Fun
		from int
		want []api.Fun
	}{
		{x(), nil, 0, nil},
		{x(), xs, 0, xs},
		{abs(x()), nil, 0, []api.Fun{constant("!0", number(0))}},
		{abs(x()), xs, 0, []api.Fun{constant("!0", number(4)), xs[0], xs[1]}},
		{abs(y()), xs, 12, []api.Fun{constant("!12", number(3)), xs[0], xs[1]}},
		{abs(x()), []api.Fun{constant("x", far(-1))}, 1, []api.Fun{constant("!1", far(1)), constant("x", far(-1))}},
		{ite(p(), x(), y()), xs, 0, []api.Fun{constant("!0", number(3)), xs[0], xs[1]}},
		{ite(p(), x(), y()), []api.Fun{at, xs[0], xs[1]}, 0, []api.Fun{constant("!0", number(-4)), at, xs[0], xs[1]}},
		// one in another, of a function's values
		{abs(f(abs(x()))), fs, 0, slices.Concat([]api.Fun{constant("!0", number(4)), constant("!1", number(2))}, fs)},
		{f(ite(eq(abs(f(abs(x()))), num(2)), x(), y())), fs, 8, slices.Concat([]api.Fun{constant("!10", number(-4)), constant("!8", number(4)), constant("!9", number(2))}, fs)},
		// names rise byte by byte: !10 ahead of !9
		{add(abs(x()), abs(y())), xs, 9, []api.Fun{constant("!10", number(3)), constant("!9", number(4)), xs[0], xs[1]}},
		// in the place of whatever has that name
		{abs(x()), []api.Fun{function(signature("!0", i, i), number(7), row(number(1), number(2))), xs[0]}, 0, []api.Fun{constant("!0", number(4)), xs[0]}},
		{abs(x()), []api.Fun{constant("!0", truth(1)), constant("!00", truth(1)), xs[0]}, 0, []api.Fun{constant("!0", number(4)), constant("!00", truth(1)), xs[0]}},
		{abs(fresh(0)), []api.Fun{constant("!0", number(-5))}, 0, []api.Fun{constant("!0", number(5))}},
		{abs(abs(fresh(1))), []api.Fun{constant("!1", number(-5))}, 0, []api.Fun{constant("!0", number(5)), constant("!1", number(5))}},
		{add(abs(x()), abs(fresh(0))), xs, 0, []api.Fun{constant("!0", number(4)), constant("!1", number(4)), xs[0], xs[1]}},
		// of one name the last, with those ahead
		{add(abs(x()), abs(y())), xs, -2, []api.Fun{constant("!0", number(3)), xs[0], xs[1]}},
		{ite(lt(abs(x()), abs(y())), abs(x()), y()), xs, -9, []api.Fun{constant("!0", number(3)), xs[0], xs[1]}},
		{ite(p(), abs(x()), abs(y())), []api.Fun{at, xs[0], xs[1]}, -9, []api.Fun{constant("!0", number(3)), at, xs[0], xs[1]}},
		{add(abs(x()), abs(y())), xs, math.MaxInt, []api.Fun{constant("!0", number(3)), constant("!9223372036854775807", number(4)), xs[0], xs[1]}},
		// what is no structure counts as nothing
		{abs(x()), []api.Fun{xs[1], xs[0]}, 0, []api.Fun{constant("!0", number(0))}},
		{x(), []api.Fun{xs[1], xs[0]}, 0, nil},
		{api.Term{}, []api.Fun{{}}, 0, nil},
		{ite(p(), x(), num(6)), []api.Fun{constant("p", truth(2)), xs[0]}, 0, []api.Fun{constant("!0", number(6))}},
	} {
		checkOver(t, c.in, c.m, c.from, c.want)
	}
}

// TestOverSome holds Over against a second reading of the chapter.
func TestOverSome(t *testing.T) {
	r := rand.New(rand.NewSource(4))
	for range 4000 {
		in, m, from := someTerm(r, someSort(r), 4), someStructure(r), pick(r, 0, 0, 2, 9, 1000, -1, -3, math.MaxInt-1)
		if !term.Is(in) {
			continue
		}
		want := over(in, m, from)
		if !value.Is(want) {
			t.Fatalf("%s is no structure", outlineFuns(want))
		}
		checkOver(t, in, m, from, want)
	}
}

// TestTrueJustWhere: a term is worth in any structure what Do makes of it is worth
// there with the constants as they are meant; whatever else one of them is,
// something that is to hold is false.
func TestTrueJustWhere(t *testing.T) {
	r := rand.New(rand.NewSource(5))
	times := map[string]int{}
	for range 4000 {
		in, m, from := someTerm(r, someSort(r), 4), someStructure(r), pick(r, 11, 20, 1000)
		if !term.Is(in) || !apart(from, in) {
			continue
		}
		out, held, next := lift.Do(in, from)
		with := lift.Over(in, m, from)
		was, is := value.Eval(in, m), value.Eval(out, with)
		if outlineValues(was) != outlineValues(is) || !value.True(held, with) {
			t.Errorf("P13.3: %s is %s in %s; %s is %s in %s", outline(in), outlineValues(was), outlineFuns(m), outline(out), outlineValues(is), outlineFuns(with))
		}
		times[outlineValues(was)]++
		for n := from; n < next; n++ {
			of := signature(fresh(n).Name, api.SInt)
			meant := value.Of(with, of, nil)
			for _, other := range []api.Int{whole.Add(meant.N, whole.Of(1)), whole.Neg(meant.N), someNumber(r)} {
				v := api.Value{Sort: api.SInt, N: other}
				if !value.Same(v, meant) && value.True(held, value.Put(with, of.Name, v)) {
					t.Errorf("P13.3: %s, %s: all holds also with %s: %s, not as meant", outline(in), outlineFuns(m), of.Name, outlineValues(v))
				}
			}
		}
	}
	for _, want := range []api.Value{truth(0), truth(1), number(0), number(1)} {
		if times[outlineValues(want)] < 20 {
			t.Errorf("P13.3: %s came only %d times", outlineValues(want), times[outlineValues(want)])
		}
	}
}
