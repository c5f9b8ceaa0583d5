package divs_test

import (
	"math"
	"math/rand"
	"slices"
	"strconv"
	"testing"

	"mullion/api"
	"mullion/divs"
	"mullion/term"
)

func TestExample(t *testing.T) {
	checkDo(t, mod(x(), num(2)), 0, fresh(1), []api.Term{eq(x(), add(mul(num(2), fresh(0)), fresh(1))), le(num(0), fresh(1)), lt(fresh(1), num(2))}, 2)
}

// ofDivision gives what is to hold of q and r, which a division of a by d, whose
// absolute value is size, leads to.
func ofDivision(q, r, a, d, size api.Term) []api.Term {
	return []api.Term{eq(a, add(mul(d, q), r)), le(num(0), r), lt(r, size)}
}

func TestDo(t *testing.T) {
	two, three, ten, less := num(2), num(3), num(10), num(-3)
	huge, minus := api.Term{Op: api.ONum, Sort: api.SInt, N: long(1)}, api.Term{Op: api.ONum, Sort: api.SInt, N: long(-1)}
	for _, c := range []struct {
		in, out    api.Term
		held       []api.Term
		from, next int
	}{
		{in: x(), out: x(), from: 5, next: 5},
		{in: num(-7), out: num(-7), from: -5, next: -5},
		{in: yes(), out: yes(), from: math.MinInt, next: math.MinInt},
		{in: no(), out: no(), from: math.MaxInt, next: math.MaxInt},
		{in: ite(p(), abs(x()), sub(x())), out: ite(p(), abs(x()), sub(x()))},
		{in: lt(x(), mul(two, y())), out: lt(x(), mul(two, y())), from: 4, next: 4},
		{in: div(x(), two), out: fresh(0), held: ofDivision(fresh(0), fresh(1), x(), two, two), next: 2},
		{in: mod(x(), two), out: fresh(8), held: ofDivision(fresh(7), fresh(8), x(), two, two), from: 7, next: 9},
		{in: div(three, two), out: fresh(9), held: ofDivision(fresh(9), fresh(10), three, two, two), from: 9, next: 11},
		// by numbers below 0, and their negatives: d as it stands
		{in: div(x(), less), out: fresh(0), held: ofDivision(fresh(0), fresh(1), x(), less, three), next: 2},
		{in: div(x(), sub(three)), out: fresh(0), held: ofDivision(fresh(0), fresh(1), x(), sub(three), three), next: 2},
		{in: mod(x(), sub(less)), out: fresh(1), held: ofDivision(fresh(0), fresh(1), x(), sub(less), three), next: 2},
		{in: mod(x(), num(1)), out: fresh(1), held: ofDivision(fresh(0), fresh(1), x(), num(1), num(1)), next: 2},
		{in: mod(x(), sub(num(1))), out: fresh(1), held: ofDivision(fresh(0), fresh(1), x(), sub(num(1)), num(1)), next: 2},
		{in: div(minus, minus), out: fresh(0), held: ofDivision(fresh(0), fresh(1), minus, minus, huge), next: 2},
		{in: div(huge, sub(huge)), out: fresh(0), held: ofDivision(fresh(0), fresh(1), huge, sub(huge), huge), next: 2},
		{in: div(huge, sub(minus)), out: fresh(0), held: ofDivision(fresh(0), fresh(1), huge, sub(minus), huge), next: 2},
		// two alike, and both of one division: constants of their own
		{in: sub(div(x(), two), div(x(), two)), out: sub(fresh(7), fresh(9)), held: slices.Concat(ofDivision(fresh(7), fresh(8), x(), two, two), ofDivision(fresh(9), fresh(10), x(), two, two)), from: 7, next: 11},
		{in: not(eq(div(x(), ten), mod(x(), ten))), out: not(eq(fresh(0), fresh(3))), held: slices.Concat(ofDivision(fresh(0), fresh(1), x(), ten, ten), ofDivision(fresh(2), fresh(3), x(), ten, ten)), next: 4},
		// kids ahead of what they are in
		{in: div(mod(div(x(), two), three), ten), out: fresh(4), held: slices.Concat(ofDivision(fresh(0), fresh(1), x(), two, two), ofDivision(fresh(2), fresh(3), fresh(0), three, three), ofDivision(fresh(4), fresh(5), fresh(3), ten, ten)), next: 6},
		{in: ite(eq(div(x(), two), three), mod(y(), ten), abs(mod(f(x()), two))), out: ite(eq(fresh(1), three), fresh(4), abs(fresh(6))), held: slices.Concat(ofDivision(fresh(1), fresh(2), x(), two, two), ofDivision(fresh(3), fresh(4), y(), ten, ten), ofDivision(fresh(5), fresh(6), f(x()), two, two)), from: 1, next: 7},
		{in: f(mod(add(f(div(y(), two)), x()), three)), out: f(fresh(3)), held: slices.Concat(ofDivision(fresh(0), fresh(1), y(), two, two), ofDivision(fresh(2), fresh(3), add(f(fresh(0)), x()), three, three)), next: 4},
		{in: apply("g", api.SBool, div(x(), two), p(), mod(y(), two)), out: apply("g", api.SBool, fresh(0), p(), fresh(3)), held: slices.Concat(ofDivision(fresh(0), fresh(1), x(), two, two), ofDivision(fresh(2), fresh(3), y(), two, two)), next: 4},
		{in: mul(sub(three), div(x(), two)), out: mul(sub(three), fresh(0)), held: ofDivision(fresh(0), fresh(1), x(), two, two), next: 2},
		{in: div(mul(div(x(), two), ten), three), out: fresh(2), held: slices.Concat(ofDivision(fresh(0), fresh(1), x(), two, two), ofDivision(fresh(2), fresh(3), mul(fresh(0), ten), three, three)), next: 4},
		// a number below 0, and beyond the last
		{in: add(div(x(), two), mod(y(), two)), out: add(fresh(0), fresh(0)), held: slices.Concat(ofDivision(fresh(0), fresh(0), x(), two, two), ofDivision(fresh(0), fresh(0), y(), two, two)), from: -4, next: 0},
		{in: add(div(x(), two), mod(y(), two)), out: add(fresh(0), fresh(2)), held: slices.Concat(ofDivision(fresh(0), fresh(0), x(), two, two), ofDivision(fresh(1), fresh(2), y(), two, two)), from: -1, next: 3},
		{in: add(div(x(), two), mod(y(), two)), out: add(fresh(0), fresh(1)), held: slices.Concat(ofDivision(fresh(0), fresh(0), x(), two, two), ofDivision(fresh(0), fresh(1), y(), two, two)), from: -2, next: 2},
		{in: mod(x(), two), out: fresh(0), held: ofDivision(fresh(math.MaxInt), fresh(0), x(), two, two), from: math.MaxInt, next: math.MinInt + 1},
		{in: mod(x(), two), out: fresh(math.MaxInt), held: ofDivision(fresh(math.MaxInt-1), fresh(math.MaxInt), x(), two, two), from: math.MaxInt - 1, next: math.MinInt},
		// names that are there already stay
		{in: div(add(fresh(0), fresh(1)), two), out: fresh(0), held: ofDivision(fresh(0), fresh(1), add(fresh(0), fresh(1)), two, two), next: 2},
	} {
		checkTerms(t, c.in)
		checkDo(t, c.in, c.from, c.out, c.held, c.next)
	}
}

// TestTooLarge takes terms of which what is to hold has as many nodes as a term
// may have, and one more.
func TestTooLarge(t *testing.T) {
	two := num(2)
	checkAll := func(in api.Term, large bool) {
		t.Helper()
		checkTerms(t, in)
		want, r := do(in, 3)
		if large != (len(r.held) == 0) {
			t.Fatalf("%d are to hold", len(r.held))
		}
		checkDo(t, in, 3, want, r.held, r.next)
		if got := divs.Over(in, nil, 3); len(got) != 2*len(r.names) {
			t.Errorf("P14.2: %d constants", len(got))
		}
	}
	for n := 388; n <= 398; n++ {
		checkAll(div(wide(n), two), n > 394)
		checkAll(mod(wide(n), two), n > 394)
		checkAll(div(wide(n), num(-2)), n > 394)
		checkAll(mod(div(wide(n-2), two), two), n-2 > 394) // kids become shorter
		if n < 398 {
			checkAll(div(wide(n), sub(two)), n > 393)
			checkAll(mod(wide(n), sub(num(-2))), n > 393)
		}
		checkAll(and(eq(div(wide(n-4), two), x())), false)
		if n < 397 {
			checkAll(div(add(mod(x(), two), wide(n-2)), two), n > 394) // the first would do
			checkAll(add(div(x(), two), wide(n)), false)
		}
	}
	checkAll(add(div(wide(195), two), mod(wide(194), sub(two))), false)
	checkAll(add(div(wide(390), two), mod(x(), two)), false)
	checkAll(add(mod(x(), two), div(add(wide(391)), two)), false)
	checkAll(mod(add(wide(393), mod(x(), two)), two), true)
	checkAll(and(eq(mod(wide(392), sub(two)), x()), p()), false)
	checkAll(and(eq(mod(wide(394), sub(two)), x())), true)
	checkAll(within(199, x()), false)
	checkDo(t, mod(wide(399), two), 0, mod(wide(399), two), nil, 0) // no term
}

// TestDoWhatIsNone: what is no term stays, as it stands.
func TestDoWhatIsNone(t *testing.T) {
	bad := api.Int{Neg: true, Mag: []uint32{0, api.Base}}
	two := num(2)
	for _, in := range []api.Term{
		{}, {Op: 99}, {Op: api.ODiv}, {Op: api.OMod, Sort: api.SInt}, of(api.ODiv, api.SInt, x()), of(api.OMod, api.SInt, x(), two, two), div(p(), two), div(api.Term{}, two), of(api.ODiv, api.SBool, x(), two), of(api.OMod, 0, x(), two),
		div(x(), num(0)), mod(x(), sub(num(0))), div(x(), y()), mod(x(), add(two)), div(x(), sub(two, num(1))), div(x(), sub(sub(two))), div(x(), mul(two, two)), mod(x(), api.Term{}), div(x(), abs(two)), mod(x(), div(two, two)), mod(two, yes()),
		div(x(), api.Term{Op: api.ONum, Sort: api.SInt, N: bad}), div(api.Term{Op: api.ONum, Sort: api.SInt, N: bad}, two), {Op: api.ODiv, Sort: api.SInt, N: bad, Name: "x", Kids: []api.Term{x(), two}}, {Op: api.OMod, Sort: api.SInt, N: two.N, Kids: []api.Term{x(), two}},
		and(p(), lt(div(x(), two), api.Term{})), and(api.Term{}, lt(mod(x(), two), y())), f(div(apply("5", api.SInt), two)), apply("f", 3, div(x(), two)), mul(div(two, two), mod(two, two)), of(api.OMul, api.SInt, x(), y()),
		wide(401), div(wide(399), two), mod(wide(398), sub(two)), within(200, x()), within(nested-1, x()), add(div(x(), two), wide(397)),
	} {
		if term.Is(in) {
			t.Fatalf("%s is a term", outline(in))
		}
		for _, from := range []int{0, 7, -7, math.MaxInt, math.MinInt} {
			checkDo(t, in, from, in, nil, from)
		}
		m := []api.Fun{constant("x", number(4))}
		checkOver(t, in, m, 0, m)
	}
}

// TestDoSome holds Do against a second reading of the chapter.
func TestDoSome(t *testing.T) {
	r := rand.New(rand.NewSource(1))
	times := map[int]int{}
	for range 8000 {
		in, from := someTerm(r, someSort(r), 5), pick(r, 0, 0, 2, 9, 1000, -1, -3, math.MaxInt-1, math.MaxInt, math.MinInt)
		if !term.Is(in) {
			continue
		}
		want, reads := do(in, from)
		times[min(len(reads.held), 9)]++
		checkDo(t, in, from, want, reads.held, reads.next)
		out, held, _ := divs.Do(in, from)
		for _, one := range append(held, out) {
			if !term.Is(one) || !divs.Pure(one) {
				t.Errorf("P14.1: %s isn't pure", outline(one))
			}
		}
		if out.Sort != in.Sort {
			t.Errorf("P14.1: %s isn't of %s's sort", outline(out), outline(in))
		}
	}
	for n := 0; n <= 9; n += 3 {
		if times[n] < 200 {
			t.Errorf("P14.1: %d came only %d times", n, times[n])
		}
	}
}

// TestDoAgain: of what is pure nothing is made.
func TestDoAgain(t *testing.T) {
	r := rand.New(rand.NewSource(2))
	for range 1000 {
		in := someTerm(r, someSort(r), 4)
		out, held, next := divs.Do(in, 20)
		if !divs.Pure(out) {
			continue
		}
		for _, one := range append(held, out) {
			checkDo(t, one, next, one, nil, next)
		}
	}
}

func checkPure(t *testing.T, in api.Term, want bool) {
	t.Helper()
	if divs.Pure(in) != want {
		t.Errorf("P14.1: Pure of %s: %t", brief(outline(in)), !want)
	}
}

func TestPure(t *testing.T) {
	two := num(2)
	for _, in := range []api.Term{
		x(), num(3), yes(), no(), p(), f(x()), wide(400), ite(p(), x(), y()), abs(x()), sub(x()), mul(two, x()), apply("div", api.SInt, x(), two), apply("mod", api.SInt, x(), two),
		// what is no term is asked likewise
		{}, {Op: 99}, {Op: api.OAbs}, {Op: api.OMul, Sort: 3}, wide(401), wide(100000), {Op: api.ONot, Kids: []api.Term{{}, {}}}, {Name: "div"}, {Sort: api.ODiv}, {Sort: api.OMod},
	} {
		checkPure(t, in, true)
		checkPure(t, of(api.OAnd, api.SBool, p(), in, x()), true)
	}
	deep := x()
	for range nested - 1 {
		deep = sub(deep)
	}
	checkPure(t, deep, true)
	for _, in := range []api.Term{
		div(x(), two), mod(x(), two), div(num(3), sub(two)), mod(mod(x(), two), two), div(x(), num(0)), mod(x(), y()),
		{Op: api.ODiv}, {Op: api.OMod}, {Op: api.ODiv, Sort: api.SBool}, {Op: api.OMod, Sort: api.SInt}, mod(p(), yes()), div(wide(400), two), within(nested-1, x()),
	} {
		checkPure(t, in, false)
		for at := range 5 {
			kids := slices.Repeat([]api.Term{p()}, 5)
			kids[at] = in
			checkPure(t, of(api.OAnd, api.SBool, kids...), false)
			checkPure(t, of(api.ONum, api.SInt, x(), f(of(99, 0, kids...))), false)
			checkPure(t, ite(yes(), no(), of(api.OAdd, api.SInt, append(kids, wide(400))...)), false)
		}
	}
	checkPure(t, add(wide(500), mod(x(), two)), false)
}

func TestPureSome(t *testing.T) {
	r := rand.New(rand.NewSource(3))
	times := map[bool]int{}
	for range 10000 {
		in := untidy(r, 1+r.Intn(3))
		times[plain(in)]++
		checkPure(t, in, plain(in))
	}
	for _, want := range []bool{true, false} {
		if times[want] < 2000 {
			t.Errorf("P14.1: %s only %d times", strconv.FormatBool(want), times[want])
		}
	}
}
