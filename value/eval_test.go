package value_test

import (
	"math/rand"
	"slices"
	"testing"

	"mullion/api"
	"mullion/term"
	"mullion/value"
	"mullion/whole"
)

// worthOf is a term, and what it is to be worth.
type worthOf struct {
	t    api.Term
	want api.Value
}

func checkAll(t *testing.T, m []api.Fun, all ...worthOf) {
	t.Helper()
	for _, c := range all {
		checkTerms(t, c.t)
		checkEval(t, c.t, m, c.want)
	}
}

func TestExample(t *testing.T) {
	for _, m := range [][]api.Fun{nil, some(), {{}}} {
		checkAll(t, m, worthOf{of(api.OMod, i, num(7), num(2)), number(1)})
	}
}

func TestLeaves(t *testing.T) {
	checkAll(t, some(),
		worthOf{num(0), number(0)}, worthOf{num(-4), number(-4)}, worthOf{num(1000000007), number(1000000007)}, worthOf{api.Term{Op: api.ONum, N: long(-1), Sort: i}, api.Value{Sort: i, N: long(-1)}}, worthOf{yes(), truth(1)}, worthOf{no(), truth(0)},
		worthOf{x(), number(7)}, worthOf{y(), number(-3)}, worthOf{z(), api.Value{Sort: i, N: long(-1)}}, worthOf{p(), truth(1)}, worthOf{q(), truth(0)}, worthOf{apply("!0", i), number(-8)},
		worthOf{apply("w", i), number(0)}, worthOf{apply("w", b), truth(0)}, worthOf{apply("x", b), truth(0)}, worthOf{apply("p", i), number(0)}, worthOf{apply("f", i), number(0)}, worthOf{apply("r", b), truth(0)},
	)
	checkAll(t, nil, worthOf{num(-4), number(-4)}, worthOf{yes(), truth(1)}, worthOf{no(), truth(0)}, worthOf{x(), number(0)}, worthOf{p(), truth(0)}, worthOf{apply("f", i, num(1)), number(0)})
}

func TestNames(t *testing.T) {
	f := func(t api.Term) api.Term { return apply("f", i, t) }
	checkAll(t, some(),
		worthOf{f(num(2)), number(20)}, worthOf{f(num(1)), number(10)}, worthOf{f(num(3)), number(-1)}, worthOf{f(z()), api.Value{Sort: i, N: long(1)}}, worthOf{f(f(num(5))), number(-1)}, worthOf{f(of2(api.OSub, x(), num(5))), number(20)}, worthOf{f(of(api.OAbs, i, f(num(9)))), number(10)},
		worthOf{apply("f", b, num(2)), truth(0)}, worthOf{f(p()), number(0)}, worthOf{apply("f", i, num(2), num(2)), number(0)}, worthOf{apply("x", i, num(2)), number(0)},
		worthOf{apply("g", b, x(), p()), truth(1)}, worthOf{apply("g", b, x(), q()), truth(0)}, worthOf{apply("g", b, y(), q()), truth(1)}, worthOf{apply("g", b, y(), apply("g", b, x(), q())), truth(1)}, worthOf{apply("g", b, p(), x()), truth(0)},
		worthOf{apply("h", i, p(), q(), num(0)), number(6)}, worthOf{apply("h", i, q(), p(), of2(api.OSub, x(), x())), number(7)}, worthOf{apply("h", i, p(), p(), num(0)), number(5)}, worthOf{apply("r", b, p()), truth(1)}, worthOf{apply("r", b, q()), truth(1)}, worthOf{apply("r", b, x()), truth(0)},
	)
}

// TestBools takes each operator of Bools with all there is.
func TestBools(t *testing.T) {
	values := []api.Term{q(), p()}
	for m, a := range values {
		checkAll(t, some(), worthOf{of(api.ONot, b, a), truth(int64(1 - m))}, worthOf{of(api.OAnd, b, a), truth(int64(m))}, worthOf{of(api.OOr, b, a), truth(int64(m))}, worthOf{of(api.ODistinct, b, a), truth(1)})
		for n, c := range values {
			both, either, same := int64(m&n), int64(m|n), int64(1-m^n)
			checkAll(t, some(),
				worthOf{of(api.OAnd, b, a, c), truth(both)}, worthOf{of(api.OOr, b, a, c), truth(either)}, worthOf{of(api.OXor, b, a, c), truth(1 - same)}, worthOf{of(api.OImplies, b, a, c), truth(int64((1 - m) | n))},
				worthOf{of(api.OEq, b, a, c), truth(same)}, worthOf{of(api.ODistinct, b, a, c), truth(1 - same)},
			)
			for k, d := range values {
				want := []int{k, n}[m]
				checkAll(t, some(),
					worthOf{of(api.OAnd, b, a, c, d), truth(int64(m & n & k))}, worthOf{of(api.OOr, b, a, c, d), truth(int64(m | n | k))}, worthOf{of(api.ODistinct, b, a, c, d), truth(0)},
					worthOf{of(api.OIte, b, a, c, d), truth(int64(want))}, worthOf{of(api.OIte, i, a, num(int64(n)+5), num(int64(k)+5)), number(int64(want) + 5)},
				)
			}
		}
	}
}

func TestNumbers(t *testing.T) {
	for _, m := range []int64{-7, -6, -3, -1, 0, 1, 2, 7, 8, 1000000000} {
		a := num(m)
		checkAll(t, nil, worthOf{of(api.OSub, i, a), number(-m)}, worthOf{of(api.OAbs, i, a), number(max(m, -m))}, worthOf{of(api.OAdd, i, a), number(m)}, worthOf{of(api.ODistinct, b, a), truth(1)})
		for _, n := range []int64{-1000000000, -7, -3, -2, -1, 0, 1, 2, 3, 7} {
			c := num(n)
			checkAll(t, nil,
				worthOf{of2(api.OAdd, a, c), number(m + n)}, worthOf{of2(api.OSub, a, c), number(m - n)}, worthOf{of2(api.OMul, a, c), number(m * n)}, worthOf{of(api.OAdd, i, a, c, a, num(1)), number(2*m + n + 1)}, worthOf{of(api.OSub, i, a, c, c, num(1)), number(m - 2*n - 1)},
				worthOf{of2(api.OLe, a, c), truth(one(m <= n))}, worthOf{of2(api.OLt, a, c), truth(one(m < n))}, worthOf{of2(api.OGe, a, c), truth(one(m >= n))}, worthOf{of2(api.OGt, a, c), truth(one(m > n))},
				worthOf{of2(api.OEq, a, c), truth(one(m == n))}, worthOf{of2(api.ODistinct, a, c), truth(one(m != n))}, worthOf{of(api.ODistinct, b, a, num(99), c), truth(one(m != n))}, worthOf{of(api.ODistinct, b, num(99), a, c), truth(one(m != n))}, worthOf{of(api.ODistinct, b, a, c, num(99)), truth(one(m != n))},
			)
			if n == 0 {
				continue
			}
			left := (m%n + n) % n
			if n < 0 && left != 0 {
				left -= n
			}
			for _, by := range []api.Term{c, of(api.OSub, i, num(-n))} {
				checkAll(t, nil, worthOf{of2(api.ODiv, a, by), number((m - left) / n)}, worthOf{of2(api.OMod, a, by), number(left)})
			}
		}
	}
}

func one(is bool) int64 {
	if is {
		return 1
	}
	return 0
}

// TestLong takes numbers beyond all machine words, and as many kids as there may
// be.
func TestLong(t *testing.T) {
	big := api.Term{Op: api.ONum, N: long(1), Sort: i}
	long2 := whole.Mul(long(1), long(-1))
	checkAll(t, some(),
		worthOf{of2(api.OMul, big, z()), api.Value{Sort: i, N: long2}}, worthOf{of2(api.OAdd, big, z()), number(0)}, worthOf{of2(api.OSub, big, z()), api.Value{Sort: i, N: whole.Add(long(1), long(1))}}, worthOf{of2(api.ODiv, of2(api.OMul, big, z()), big), api.Value{Sort: i, N: long(-1)}},
		worthOf{of2(api.OLt, z(), big), truth(1)}, worthOf{of2(api.OEq, of(api.OAbs, i, z()), big), truth(1)}, worthOf{of2(api.OMod, of2(api.OAdd, z(), num(-1)), num(2)), number(1)}, worthOf{of2(api.OEq, z(), of2(api.OAdd, z(), num(1))), truth(0)},
	)
	var kids []api.Term
	for n := range int64(399) {
		kids = append(kids, num(n-5))
	}
	checkAll(t, nil,
		worthOf{of(api.OAdd, i, kids...), number(399*398/2 - 5*399)}, worthOf{of(api.OSub, i, kids...), number(-5 - (399*398/2 - 5*399 + 5))}, worthOf{of(api.ODistinct, b, kids...), truth(1)}, worthOf{of(api.ODistinct, b, append(slices.Clone(kids[:398]), num(-5))...), truth(0)},
		worthOf{of(api.OAnd, b, slices.Repeat([]api.Term{yes()}, 399)...), truth(1)}, worthOf{of(api.OAnd, b, append(slices.Repeat([]api.Term{yes()}, 398), no())...), truth(0)}, worthOf{of(api.OOr, b, append(slices.Repeat([]api.Term{no()}, 398), yes())...), truth(1)}, worthOf{within(399, num(-3)), number(3)},
	)
	power := num(1)
	want := whole.Of(1)
	for range 199 {
		power, want = of2(api.OMul, power, num(-999999999)), whole.Mul(want, whole.Of(-999999999))
	}
	checkAll(t, nil, worthOf{power, api.Value{Sort: i, N: want}})
}

// TestNoTerms: what isn't term's Is is worth 0 of SBool.
func TestNoTerms(t *testing.T) {
	for _, in := range []api.Term{
		{}, {Op: api.ONum}, {Op: api.OTrue}, {Op: api.OFalse, Sort: i}, {Op: 99, Sort: b}, {Op: -1, Sort: i, Kids: []api.Term{x()}}, {Op: api.ONum, Sort: b, N: whole.Of(1)}, {Op: api.ONum, Sort: i, N: api.Int{Neg: true}}, {Op: api.ONum, Sort: i, N: api.Int{Mag: []uint32{1, 0}}},
		apply("", i), apply("a b", b), apply("x", 3), apply("p", 0), apply(most+"0", i), apply("f", i, num(1), num(1), num(1), num(1)), apply("f", i, api.Term{}), {Op: api.OTrue, Sort: b, Name: "x"}, {Op: api.OTrue, Sort: b, N: whole.Of(1)}, {Op: api.OTrue, Sort: b, Kids: []api.Term{p()}}, {Op: api.OApp, Name: "p", Sort: b, N: whole.Of(1)},
		of(api.ONot, b), of(api.ONot, b, x()), of(api.ONot, b, no(), no()), of(api.ONot, i, no()), of(api.OAnd, b), of(api.OAnd, b, p(), x()), of(api.OOr, i, p()), of(api.OAdd, i), of(api.OAdd, b, num(1)), of(api.OMul, i, x(), x()), of(api.OMul, i, num(2)), of(api.ODiv, i, x(), num(0)), of(api.OMod, i, x(), y()), of(api.OMod, i, x()),
		of(api.OIte, i, p(), x(), p()), of(api.OIte, b, p(), p()), of(api.OIte, b, x(), p(), p()), of(api.OEq, b, p(), num(1)), of(api.OEq, b, p()), of(api.OLe, b, x()), of(api.OImplies, b, p()), of(api.OXor, b, p(), q(), q()), of(api.OAbs, i), of(api.OOr, b, yes(), api.Term{}), of(api.OOr, b, yes(), of(api.ONot, b)),
		of(api.OAdd, i, slices.Repeat([]api.Term{x()}, 400)...), of(api.OOr, b, slices.Repeat([]api.Term{p()}, 400)...), within(400, x()), within(nested-1, x()), doubled(60, x()),
	} {
		if term.Is(in) {
			t.Fatalf("%s is a term", briefTerm(in))
		}
		checkEval(t, in, some(), truth(0))
		checkEval(t, in, nil, truth(0))
	}
}

func TestTrue(t *testing.T) {
	less := of2(api.OLt, y(), x())
	for of, c := range map[string]struct {
		l    []api.Term
		want bool
	}{
		"nothing": {nil, true}, "an empty list": {[]api.Term{}, true}, "one": {[]api.Term{p()}, true}, "another": {[]api.Term{q()}, false}, "several": {[]api.Term{p(), less, yes(), p()}, true},
		"the last isn't": {[]api.Term{p(), less, q()}, false}, "the first isn't": {[]api.Term{q(), p(), less}, false}, "one between isn't": {[]api.Term{p(), no(), less}, false}, "none is": {[]api.Term{q(), no()}, false},
		"a number": {[]api.Term{x()}, false}, "the number 1": {[]api.Term{num(1)}, false}, "a number behind": {[]api.Term{p(), num(1)}, false}, "no term": {[]api.Term{{}}, false}, "no term behind": {[]api.Term{p(), {Op: api.OTrue}}, false}, "a term that is too large": {[]api.Term{of(api.OOr, b, slices.Repeat([]api.Term{p()}, 400)...)}, false},
		"what isn't there": {[]api.Term{apply("w", b)}, false}, "what isn't there, not": {[]api.Term{of(api.ONot, b, apply("w", b))}, true}, "many": {slices.Repeat([]api.Term{p()}, 10000), true}, "many and one": {append(slices.Repeat([]api.Term{p()}, 10000), q()), false},
	} {
		if got := value.True(c.l, some()); got != c.want {
			t.Errorf("P12.2: %s: true: %t", of, got)
		}
	}
	if !value.True(nil, []api.Fun{{}}) || !value.True(nil, nil) {
		t.Error("P12.2: nothing isn't true in nothing")
	}
}

// TestSomeTerms holds Eval and True against the document's words, read without
// the program.
func TestSomeTerms(t *testing.T) {
	r := rand.New(rand.NewSource(3))
	ops := map[int]int{}
	truths, falses := 0, 0
	for range 15000 {
		in, m := someTerm(r, someSort(r), 4), someStructure(r)
		checkTerms(t, in)
		if r.Intn(10) == 0 {
			m = tampered(r, m)
		}
		said := m
		if !legal(m) {
			said = nil
		}
		want := api.Value{Sort: in.Sort, N: integer(worth(in, said))}
		checkEval(t, in, m, want)
		ops[in.Op]++
		if in.Sort == b && len(want.N.Mag) > 0 {
			truths++
		} else if in.Sort == b {
			falses++
		}
	}
	for op := api.ONum; op <= api.OGt; op++ {
		if ops[op] < 20 {
			t.Errorf("P12.2: only %d of operator %d", ops[op], op)
		}
	}
	if truths < 2000 || falses < 2000 {
		t.Errorf("P12.4: %d are true, %d aren't", truths, falses)
	}
}

// TestTrueOfSome: a list is true where each one of it is worth 1.
func TestTrueOfSome(t *testing.T) {
	r := rand.New(rand.NewSource(4))
	times := map[bool]int{}
	for range 8000 {
		m := someStructure(r)
		var l []api.Term
		want := true
		for range r.Intn(4) {
			one := someTerm(r, pick(r, b, b, b, b, b, i), 3)
			l = append(l, one)
			want = want && one.Sort == b && worth(one, m).Sign() > 0
		}
		times[want]++
		if got := value.True(l, m); got != want {
			t.Errorf("P12.4: %s in %s: true: %t", outlineTerm(api.Term{Kids: l}), outline(m), got)
		}
	}
	if times[true] < 1000 || times[false] < 1000 {
		t.Errorf("P12.4: %v", times)
	}
}
