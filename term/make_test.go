package term_test

import (
	"math"
	"math/rand"
	"slices"
	"testing"

	"mullion/api"
	"mullion/term"
)

// checkMake holds all that Make answers against what it is to.
func checkMake(t *testing.T, op int, l []api.Term, sort int, want api.Errno) {
	t.Helper()
	out := api.Term{Op: op, Sort: sort, Kids: l}
	if want != api.OK {
		out = api.Term{}
	}
	got, e := term.Make(op, l)
	if outline(got) != outline(out) || e != want {
		t.Errorf("P10.2: Make(%d, %s): %s, %v, not %v", op, brief(api.Term{Kids: l}), brief(got), e, want)
	}
	if term.Is(got) != (want == api.OK) {
		t.Errorf("P10.3: Is of Make(%d, %s): %t", op, brief(api.Term{Kids: l}), term.Is(got))
	}
}

func TestExample(t *testing.T) {
	checkMake(t, api.OMul, []api.Term{x(), constant("y", api.SInt)}, 0, api.ErrLinear)
}

func TestNoOperator(t *testing.T) {
	for _, op := range append(slices.Clone(leaves), 0, -1, -5, 23, 24, 99, math.MaxInt, math.MinInt) {
		for _, l := range [][]api.Term{nil, {}, {x()}, {p(), p()}, {number(1), number(2), number(3)}, {{}}, {wide(400)}} {
			checkMake(t, op, l, 0, api.ErrForm)
		}
	}
}

// TestArgs takes each operator with rows of kids of all lengths, the sorts being
// those that it asks for.
func TestArgs(t *testing.T) {
	for _, op := range operators {
		for n := range 30 {
			l := slices.Repeat([]api.Term{number(3)}, n)
			for i := range l {
				if op >= api.ONot && op <= api.OImplies || op == api.OIte && i == 0 {
					l[i] = p()
				}
			}
			if argsOf(op, n) {
				checkMake(t, op, l, sortOf(op, l), api.OK)
				continue
			}
			checkMake(t, op, l, 0, api.ErrArgs)
			for i := range l { // whatever the kids are
				l[i] = pick(rand.New(rand.NewSource(int64(n))), api.Term{}, x(), p(), wide(401))
			}
			checkMake(t, op, l, 0, api.ErrArgs)
		}
	}
}

// TestAllRows takes each operator, and what is none, with all rows of up to
// three kids out of such as differ for the rules, and some of four.
func TestAllRows(t *testing.T) {
	all := []api.Term{
		x(), p(), yes(), number(2), number(0), negative(number(2)), negative(number(0)), negative(negative(number(2))), negative(x()),
		of(api.OSub, api.SInt, number(2), number(2)), of(api.OAdd, api.SInt, number(2)), of(api.OIte, api.SInt, p(), number(2), number(2)), {Op: api.ONum},
	}
	rows := [][]api.Term{nil}
	times := map[api.Errno]int{}
	for size := 0; size <= 3; size++ {
		var longer [][]api.Term
		for _, l := range rows {
			for op := -1; op <= 24; op++ {
				want := refused(op, l)
				sort := 0
				if want == api.OK {
					sort = sortOf(op, l)
				}
				checkMake(t, op, l, sort, want)
				times[want]++
			}
			for _, kid := range all {
				longer = append(longer, append(slices.Clone(l), kid))
			}
		}
		rows = longer
		if t.Failed() {
			return
		}
	}
	for _, e := range []api.Errno{api.OK, api.ErrForm, api.ErrArgs, api.ErrSort, api.ErrLinear, api.ErrZero} {
		if times[e] < 40 {
			t.Errorf("P10.2: only %d rows were %v", times[e], e)
		}
	}
}

// TestSorts takes operators of however many kids with one of another sort at
// each place.
func TestSorts(t *testing.T) {
	for _, op := range []int{api.OAnd, api.OOr, api.OAdd, api.OSub, api.ODistinct} {
		for _, other := range [][2]api.Term{{x(), p()}, {p(), x()}} {
			for n := 1; n <= 6; n++ {
				l := slices.Repeat(other[:1], n)
				if sort := sortOf(op, l); refused(op, l) == api.OK {
					checkMake(t, op, l, sort, api.OK)
				} else {
					checkMake(t, op, l, 0, api.ErrSort)
				}
				for i := range l {
					if n == 1 {
						continue
					}
					mixed := slices.Clone(l)
					mixed[i] = other[1]
					checkMake(t, op, mixed, 0, api.ErrSort)
				}
			}
		}
	}
}

func TestIteIsOfTheSecondsSort(t *testing.T) {
	checkMake(t, api.OIte, []api.Term{p(), x(), number(2)}, api.SInt, api.OK)
	checkMake(t, api.OIte, []api.Term{p(), p(), no()}, api.SBool, api.OK)
	checkMake(t, api.OIte, []api.Term{p(), p(), x()}, 0, api.ErrSort)
	checkMake(t, api.OIte, []api.Term{p(), x(), p()}, 0, api.ErrSort)
	checkMake(t, api.OIte, []api.Term{x(), x(), x()}, 0, api.ErrSort)
	checkMake(t, api.OIte, []api.Term{x(), p(), p()}, 0, api.ErrSort)
}

// TestLinear takes products and divisors that are numbers, of any size, and
// such as are worth one but aren't.
func TestLinear(t *testing.T) {
	r := rand.New(rand.NewSource(2))
	for range 200 {
		n := term.Num(someNumber(r))
		by := pick(r, n, negative(n))
		kid := pick(r, x(), number(3), number(0), of(api.ODiv, api.SInt, x(), number(2)))
		want := api.OK
		if len(n.N.Mag) == 0 {
			want = api.ErrZero
		}
		checkMake(t, api.OMul, []api.Term{by, kid}, api.SInt, api.OK)
		checkMake(t, api.OMul, []api.Term{kid, by}, api.SInt, api.OK)
		checkMake(t, api.OMul, []api.Term{by, by}, api.SInt, api.OK)
		for _, op := range []int{api.ODiv, api.OMod} {
			sort := api.SInt
			if want != api.OK {
				sort = 0
			}
			checkMake(t, op, []api.Term{kid, by}, sort, want)
		}
	}
	two := number(2)
	for _, none := range []api.Term{
		x(), apply("f", api.SInt, two), of(api.OAdd, api.SInt, two), of(api.OAdd, api.SInt, number(0)), of(api.OMul, api.SInt, two, two), of(api.OAbs, api.SInt, two),
		negative(negative(two)), negative(x()), negative(of(api.OAdd, api.SInt, two)), of(api.OSub, api.SInt, two, number(1)), of(api.OIte, api.SInt, yes(), two, two),
	} {
		checkMake(t, api.OMul, []api.Term{none, none}, 0, api.ErrLinear)
		checkMake(t, api.OMul, []api.Term{none, x()}, 0, api.ErrLinear)
		checkMake(t, api.ODiv, []api.Term{two, none}, 0, api.ErrLinear)
		checkMake(t, api.OMod, []api.Term{two, none}, 0, api.ErrLinear)
	}
}

// TestLarge takes each operator with kids that make it as large as it may be,
// and with one node more.
func TestLarge(t *testing.T) {
	const n = api.MaxNodes
	for _, op := range operators {
		for _, count := range []int{1, 2, 3, 5} {
			if !argsOf(op, count) {
				continue
			}
			for _, more := range []int{0, 1, 2, n, 3 * n} {
				l := make([]api.Term, count)
				left := n + more - 1
				for i := range l {
					one := 1
					if i == 0 {
						one = min(left-(count-1), n)
					}
					if i == 1 && more > 2 {
						one = n // the first alone can't be as large
					}
					l[i] = kidOf(op, i, one)
				}
				want := refused(op, l)
				sort := sortOf(op, l)
				if want != api.OK {
					sort = 0
				}
				if (want == api.ErrLarge) != (size(of(op, 0, l...)) > n) && want != api.ErrLinear {
					t.Fatalf("P10.2: %d of %d kids, %d more: %v", op, count, more, want)
				}
				checkMake(t, op, l, sort, want)
			}
		}
	}
}

// kidOf gives what may be the i-th kid of op, of n nodes.
func kidOf(op, i, n int) api.Term {
	switch {
	case (op == api.ODiv || op == api.OMod || op == api.OMul) && i == 1 && n == 1:
		return number(7)
	case op >= api.ONot && op <= api.OImplies || op == api.OIte && i == 0:
		return pickSize(n, p(), wideBool(n))
	}
	return pickSize(n, x(), wide(n))
}

func pickSize(n int, one, more api.Term) api.Term {
	if n == 1 {
		return one
	}
	return more
}

func TestLargeOfMany(t *testing.T) {
	const n = api.MaxNodes
	for _, op := range []int{api.OAnd, api.OOr, api.OAdd, api.OSub, api.ODistinct} {
		kid := []api.Term{kidOf(op, 0, 1)}
		checkMake(t, op, slices.Repeat(kid, n-1), sortOf(op, kid), api.OK)
		for _, more := range []int{n, n + 1, 2 * n, 100000} {
			checkMake(t, op, slices.Repeat(kid, more), 0, api.ErrLarge)
		}
	}
	checkMake(t, api.OAbs, []api.Term{within(n-2, x())}, api.SInt, api.OK)
	checkMake(t, api.OAbs, []api.Term{within(n-1, x())}, 0, api.ErrLarge)
}

// TestFirstError takes kids with several errors: the one that is named first is
// told.
func TestFirstError(t *testing.T) {
	large := wide(400)
	bad := api.Term{Op: api.ONum}
	for i, c := range []struct {
		op   int
		l    []api.Term
		want api.Errno
	}{
		{api.ONum, []api.Term{bad, large}, api.ErrForm},
		{99, []api.Term{bad, p(), large}, api.ErrForm},
		{api.ONot, []api.Term{bad, large}, api.ErrArgs},
		{api.OMul, []api.Term{x(), x(), x()}, api.ErrArgs},
		{api.ODiv, []api.Term{x()}, api.ErrArgs},
		{api.ODiv, nil, api.ErrArgs},
		{api.OMul, []api.Term{p(), bad}, api.ErrForm},
		{api.OAdd, []api.Term{large, p(), bad}, api.ErrForm},
		{api.ODiv, []api.Term{number(0), bad}, api.ErrForm},
		{api.OAdd, []api.Term{p(), wide(401)}, api.ErrForm},
		{api.OMul, []api.Term{large, p()}, api.ErrSort},
		{api.OMul, []api.Term{p(), x()}, api.ErrSort},
		{api.ODiv, []api.Term{p(), number(0)}, api.ErrSort},
		{api.OMod, []api.Term{x(), p()}, api.ErrSort},
		{api.OIte, []api.Term{large, large, p()}, api.ErrSort},
		{api.OEq, []api.Term{large, p()}, api.ErrSort},
		{api.OMul, []api.Term{large, large}, api.ErrLinear},
		{api.ODiv, []api.Term{x(), large}, api.ErrLinear},
		{api.OMod, []api.Term{large, x()}, api.ErrLinear},
		{api.ODiv, []api.Term{large, number(0)}, api.ErrZero},
		{api.OMod, []api.Term{large, negative(number(0))}, api.ErrZero},
		{api.ODiv, []api.Term{large, number(1)}, api.ErrLarge},
		{api.OMul, []api.Term{large, negative(number(1))}, api.ErrLarge},
		{api.OEq, []api.Term{large, large}, api.ErrLarge},
	} {
		got, e := term.Make(c.op, c.l)
		if e != c.want || outline(got) != outline(api.Term{}) {
			t.Errorf("P10.2: row %d: %s, %v, not %v", i, brief(got), e, c.want)
		}
	}
}

// TestMakeOfSome holds Make against the rules for kids of all kinds, terms or
// not.
func TestMakeOfSome(t *testing.T) {
	r := rand.New(rand.NewSource(3))
	for range 20000 {
		var l []api.Term
		for range 1 + r.Intn(3) {
			kid := someTerm(r, someSort(r), 2)
			if r.Intn(12) == 0 {
				kid = tampered(r, kid)
			}
			l = append(l, kid)
		}
		op := pick(r, operators...)
		want, sort := refused(op, l), 0
		if want == api.OK {
			sort = sortOf(op, l)
		}
		checkMake(t, op, l, sort, want)
	}
}
