package term_test

import (
	"math"
	"math/rand"
	"slices"
	"testing"

	"mullion/api"
	"mullion/term"
	"mullion/whole"
)

func TestNum(t *testing.T) {
	r := rand.New(rand.NewSource(5))
	all := []api.Int{{}, {Mag: []uint32{}}, whole.Of(1), whole.Of(-1), whole.Of(math.MaxInt64), whole.Of(math.MinInt64), {Mag: slices.Repeat([]uint32{7}, 90)}}
	for range 50 {
		all = append(all, someNumber(r))
	}
	for _, n := range all {
		got := term.Num(n)
		if outline(got) != outline(api.Term{Op: api.ONum, N: n, Sort: api.SInt}) || !term.Is(got) {
			t.Errorf("P10.1: Num(%v): %s", n, outline(got))
		}
	}
	for _, n := range []api.Int{{Neg: true}, {Mag: []uint32{0}}, {Neg: true, Mag: []uint32{5, 0}}, {Mag: []uint32{api.Base}}, {Mag: []uint32{api.Base, 1}}} {
		if got := term.Num(n); outline(got) != outline(number(0)) || !term.Is(got) {
			t.Errorf("P10.1: Num(%v): %s", n, outline(got))
		}
	}
}

func TestBool(t *testing.T) {
	if got := term.Bool(true); outline(got) != outline(yes()) || !term.Is(got) {
		t.Errorf("P10.1: Bool(true): %s", outline(got))
	}
	if got := term.Bool(false); outline(got) != outline(no()) || !term.Is(got) {
		t.Errorf("P10.1: Bool(false): %s", outline(got))
	}
}

// checkTerm holds what Is and Count tell of t against what they are to, of t and
// of t in another term.
func checkTerm(t *testing.T, in api.Term, is bool) {
	t.Helper()
	if got := term.Is(in); got != is {
		t.Errorf("P10.3: Is of %s: %t", brief(in), got)
	}
	if got := term.Count(in); got != min(size(in), api.MaxNodes+1) {
		t.Errorf("P10.1: Count of %s: %d, not %d", brief(in), got, size(in))
	}
}

// TestIsOfOthers takes terms with one thing that they don't have.
func TestIsOfOthers(t *testing.T) {
	n := whole.Of(7)
	for i, in := range []api.Term{
		{}, {Op: api.ONum}, {Op: api.OTrue}, {Op: api.OFalse}, {Op: api.OApp}, {Sort: api.SInt}, {Op: -1, Sort: api.SBool, Kids: []api.Term{p()}}, {Op: 23, Sort: api.SBool, Kids: []api.Term{p()}},
		{Op: api.ONum, N: n, Sort: api.SBool}, {Op: api.ONum, N: n}, {Op: api.ONum, N: n, Sort: api.SInt, Name: "x"}, {Op: api.ONum, N: n, Sort: api.SInt, Kids: []api.Term{x()}},
		{Op: api.ONum, N: api.Int{Neg: true}, Sort: api.SInt}, {Op: api.ONum, N: api.Int{Mag: []uint32{0}}, Sort: api.SInt}, {Op: api.ONum, N: api.Int{Mag: []uint32{api.Base}}, Sort: api.SInt},
		{Op: api.OTrue, Sort: api.SInt}, {Op: api.OTrue, Sort: api.SBool, N: n}, {Op: api.OTrue, Sort: api.SBool, Name: "x"}, {Op: api.OTrue, Sort: api.SBool, Kids: []api.Term{p()}},
		{Op: api.OFalse, Sort: api.SInt}, {Op: api.OFalse, Sort: api.SBool, N: api.Int{Neg: true}}, {Op: api.OFalse, Sort: api.SBool, N: api.Int{Mag: []uint32{0}}}, {Op: api.OFalse, Sort: api.SBool, Kids: []api.Term{{}}},
		apply("", api.SInt), apply("5", api.SInt), apply(most+"0", api.SInt), apply("x", 0), apply("x", 3), {Op: api.OApp, Name: "x", Sort: api.SInt, N: n},
		{Op: api.OApp, Name: "x", Sort: api.SInt, N: api.Int{Neg: true}}, apply("f", api.SInt, api.Term{}), apply("f", api.SInt, x(), x(), x(), x()), apply("f", api.SInt, apply("x", 3)),
		of(api.ONot, api.SInt, p()), of(api.ONot, 0, p()), of(api.ONot, api.SBool), of(api.ONot, api.SBool, p(), p()), of(api.ONot, api.SBool, x()), of(api.ONot, api.SBool, api.Term{}),
		{Op: api.ONot, Sort: api.SBool, Name: "x", Kids: []api.Term{p()}}, {Op: api.ONot, Sort: api.SBool, N: n, Kids: []api.Term{p()}}, {Op: api.ONot, Sort: api.SBool, N: api.Int{Neg: true}, Kids: []api.Term{p()}},
		of(api.OAnd, api.SBool), of(api.OOr, api.SBool), of(api.OAdd, api.SInt), of(api.OSub, api.SInt), of(api.ODistinct, api.SBool), of(api.OAdd, api.SBool, x()), of(api.OAdd, api.SInt, p()),
		of(api.OIte, api.SBool, p(), x(), x()), of(api.OIte, api.SInt, p(), p(), p()), of(api.OIte, api.SInt, p(), x(), p()), of(api.OIte, 0, p(), x(), x()), of(api.OIte, 3, p(), apply("x", 3), apply("x", 3)),
		of(api.OEq, api.SInt, x(), x()), of(api.OEq, api.SBool, x(), p()), of(api.OEq, api.SBool, apply("x", 3), apply("x", 3)), of(api.ODistinct, api.SBool, x(), x(), p()),
		of(api.OMul, api.SInt, x(), x()), of(api.OMul, api.SInt, number(2)), of(api.ODiv, api.SInt, x(), x()), of(api.ODiv, api.SInt, x(), number(0)), of(api.OMod, api.SInt, x(), negative(number(0))),
		of(api.OMod, api.SInt, number(2), of(api.OAdd, api.SInt, number(2))), of(api.OMul, api.SInt, x(), negative(negative(number(2)))), of(api.OMul, api.SInt, x(), api.Term{Op: api.OSub, Kids: []api.Term{number(2)}}),
		of(api.OLe, api.SInt, x(), x()), of(api.OLt, api.SBool, x()), of(api.OGe, api.SBool, p(), p()), of(api.OGt, api.SBool, x(), x(), x()),
	} {
		if legal(in) {
			t.Errorf("P10.3: row %d is legal", i)
		}
		checkTerm(t, in, false)
		for at := range 3 { // in other terms, at each place
			l := []api.Term{number(1), number(2), number(3)}
			l[at] = in
			checkTerm(t, of(api.OAdd, api.SInt, x(), of(api.OSub, api.SInt, l...)), false)
			checkTerm(t, apply("f", api.SBool, l...), false)
		}
		checkTerm(t, of(api.OAnd, api.SBool, p(), of(api.ONot, api.SBool, in)), false)
	}
}

// TestIsOfWellFormed takes terms that are written out, not made.
func TestIsOfWellFormed(t *testing.T) {
	two := number(2)
	for _, in := range []api.Term{
		number(0), number(-5), yes(), no(), x(), p(), apply("f", api.SInt, x(), p(), two), {Op: api.ONum, N: api.Int{Mag: []uint32{}}, Sort: api.SInt, Kids: []api.Term{}},
		{Op: api.OTrue, Sort: api.SBool, N: api.Int{Mag: []uint32{}}, Kids: []api.Term{}}, {Op: api.OApp, Name: "x", Sort: api.SInt, N: api.Int{Mag: []uint32{}}, Kids: []api.Term{}},
		of(api.ONot, api.SBool, p()), of(api.OAnd, api.SBool, p()), of(api.OEq, api.SBool, p(), p()), of(api.OEq, api.SBool, x(), x()), of(api.ODistinct, api.SBool, x()), of(api.OIte, api.SInt, p(), x(), two),
		of(api.OIte, api.SBool, p(), p(), p()), negative(two), negative(negative(two)), of(api.OMul, api.SInt, two, x()), of(api.OMul, api.SInt, x(), negative(two)), of(api.ODiv, api.SInt, x(), negative(two)),
		of(api.OMod, api.SInt, x(), two), within(399, x()), wide(400), wideBool(400), of(api.OAnd, api.SBool, wideBool(200), wideBool(199)),
	} {
		if !legal(in) {
			t.Errorf("P10.3: %s isn't legal", brief(in))
		}
		checkTerm(t, in, true)
	}
}

func TestIsAndCountOfMany(t *testing.T) {
	for _, in := range []api.Term{
		wide(401), wide(402), wide(100000), wideBool(401), within(400, x()), within(401, x()), within(nested-1, x()), of(api.OAdd, api.SInt, wide(200), wide(200)),
		of(api.OAdd, api.SInt, wide(400), wide(400)), {Kids: slices.Repeat([]api.Term{{}}, 400)}, {Kids: slices.Repeat([]api.Term{{}}, 399)}, {Op: api.ONum, Sort: api.SInt, Kids: slices.Repeat([]api.Term{{}}, 500)},
	} {
		checkTerm(t, in, false)
	}
}

// TestDoubled takes terms of more nodes than can be gone through: only as many
// are as may be.
func TestDoubled(t *testing.T) {
	in := doubled(60, x())
	if term.Is(in) || term.Count(in) != api.MaxNodes+1 {
		t.Errorf("P10.3: %t, %d", term.Is(in), term.Count(in))
	}
	if l, ok := term.Sigs(in); len(l) > 0 || !ok {
		t.Errorf("P10.3: Sigs: %v, %t", l, ok)
	}
	checkRefusal := func(e api.Errno) {
		t.Helper()
		if e != api.ErrForm {
			t.Errorf("P10.2: %v", e)
		}
	}
	_, e := term.Make(api.OAbs, []api.Term{in})
	checkRefusal(e)
	_, e = term.App(signature("f", api.SInt, api.SInt), []api.Term{in})
	checkRefusal(e)
}

// TestIsOfSome holds Is against the rules for terms, and such as are tampered
// with.
func TestIsOfSome(t *testing.T) {
	r := rand.New(rand.NewSource(6))
	is := 0
	for range 20000 {
		in := someTerm(r, someSort(r), 4)
		checkTerm(t, in, legal(in))
		in = tampered(r, in)
		checkTerm(t, in, legal(in))
		if legal(in) {
			is++
		}
	}
	if is < 1000 || is > 15000 {
		t.Errorf("P10.3: %d of 20000 that were tampered with are terms", is)
	}
}

// TestLinearAndOfOneSort holds all that is in terms that were made against what
// layer 10 is for.
func TestLinearAndOfOneSort(t *testing.T) {
	r := rand.New(rand.NewSource(7))
	times := map[int]int{}
	for range 5000 {
		for _, node := range nodes(someTerm(r, someSort(r), 4)) {
			times[node.Op]++
			switch node.Op {
			case api.OMul:
				if !isNumber(node.Kids[0]) && !isNumber(node.Kids[1]) {
					t.Errorf("P10.4: a product: %s", outline(node))
				}
			case api.ODiv, api.OMod:
				if !isNumber(node.Kids[1]) || isNought(node.Kids[1]) {
					t.Errorf("P10.4: a divisor: %s", outline(node))
				}
			case api.OEq, api.ODistinct, api.OAdd, api.OAnd:
				if !onlyOf(sortsOf(node.Kids), node.Kids[0].Sort) {
					t.Errorf("P10.4: of several sorts: %s", outline(node))
				}
			}
		}
	}
	for _, op := range slices.Concat(leaves, operators) {
		if times[op] < 20 {
			t.Errorf("P10.4: operator %d came only %d times", op, times[op])
		}
	}
}

func TestSame(t *testing.T) {
	all := []api.Term{
		{}, x(), p(), constant("y", api.SInt), constant("X", api.SInt), constant("xx", api.SInt), constant("x", api.SBool), constant("", api.SInt), constant("x", 3),
		number(0), number(1), number(-1), number(1000000001), number(1000000000), {Op: api.ONum, N: api.Int{Neg: true}, Sort: api.SInt}, {Op: api.ONum, N: api.Int{Mag: []uint32{0}}, Sort: api.SInt},
		{Op: api.ONum}, {Op: api.ONum, N: whole.Of(1)}, {Op: api.OTrue}, {N: whole.Of(1)}, {Name: "x"}, {Sort: api.SInt}, {Kids: []api.Term{{}}}, {Kids: []api.Term{{}, {}}},
		yes(), no(), {Op: api.OTrue, Sort: api.SBool, Name: "x"}, {Op: api.OTrue, Sort: api.SBool, N: whole.Of(1)}, {Op: api.OTrue, Sort: api.SBool, N: api.Int{Neg: true}},
		apply("f", api.SInt, x()), apply("f", api.SInt, p()), apply("f", api.SBool, x()), apply("g", api.SInt, x()), apply("f", api.SInt, x(), x()),
		apply("f", api.SInt, x(), p()), apply("f", api.SInt, p(), x()), of(api.OAdd, api.SInt, x()), of(api.OSub, api.SInt, x()), of(api.OAdd, api.SInt, x(), number(1)), of(api.OAdd, api.SInt, number(1), x()),
		of(api.OAdd, api.SInt, of(api.OAdd, api.SInt, x()), x()), of(api.OAdd, api.SInt, x(), of(api.OAdd, api.SInt, x())), of(api.OAdd, api.SInt, of(api.OAdd, api.SInt, x(), x())),
		wide(399), wide(400), wide(401), wideBool(400), within(400, x()), within(401, x()), within(400, p()), within(nested-1, x()), within(nested-1, p()), within(nested-2, x()),
	}
	for i, one := range all {
		for j, other := range all {
			if term.Same(one, other) != (i == j) {
				t.Errorf("P10.3: Same of row %d, row %d: %t", i, j, i != j)
			}
		}
	}
}

// TestSameOfNothing: a nil list and an empty one are the same, and it matters
// not where a list lies.
func TestSameOfNothing(t *testing.T) {
	for i, c := range [][2]api.Term{
		{x(), {Op: api.OApp, Name: "x", Sort: api.SInt, Kids: []api.Term{}}},
		{x(), {Op: api.OApp, Name: "x", Sort: api.SInt, N: api.Int{Mag: []uint32{}}}},
		{number(0), {Op: api.ONum, Sort: api.SInt, N: api.Int{Mag: []uint32{}}}},
		{number(5), {Op: api.ONum, Sort: api.SInt, N: api.Int{Mag: []uint32{5, 6}[:1]}}},
		{negative(x()), of(api.OSub, api.SInt, []api.Term{x(), p()}[:1]...)},
		{wide(3), of(api.OAdd, api.SInt, append(make([]api.Term, 0, 9), x(), api.Term{Op: api.OApp, Name: "x", Sort: api.SInt, Kids: []api.Term{}})...)},
	} {
		if !term.Same(c[0], c[1]) || !term.Same(c[1], c[0]) {
			t.Errorf("P10.3: row %d isn't the same", i)
		}
	}
}

func TestSameOfSome(t *testing.T) {
	r := rand.New(rand.NewSource(8))
	for range 5000 {
		one := someTerm(r, api.SInt, 2)
		other := pick(r, one, tampered(r, one), someTerm(r, api.SInt, 2))
		if term.Same(one, other) != (outline(one) == outline(other)) {
			t.Errorf("P10.3: Same of %s, %s: %t", outline(one), outline(other), term.Same(one, other))
		}
	}
}
