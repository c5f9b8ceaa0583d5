package lift_test

import (
	"math"
	"math/rand"
	"slices"
	"strconv"
	"testing"

	"mullion/api"
	"mullion/lift"
	"mullion/term"
)

func TestFresh(t *testing.T) {
	for n, name := range map[int]string{0: "!0", 1: "!1", 9: "!9", 10: "!10", 999999999: "!999999999", 1000000000: "!1000000000", 1000000001: "!1000000001", math.MaxInt: "!9223372036854775807", -1: "!0", -10: "!0", math.MinInt: "!0"} {
		for _, sort := range []int{api.SBool, api.SInt, 0, 3, -1} {
			got := lift.Fresh(n, sort)
			if outline(got) != outline(apply(name, sort)) || term.Is(got) != (sort == api.SBool || sort == api.SInt) {
				t.Errorf("P13.1: Fresh(%d, %d): %s", n, sort, outline(got))
			}
		}
	}
}

func TestExample(t *testing.T) {
	checkDo(t, abs(x()), 0, fresh(0), []api.Term{or(lt(x(), num(0)), eq(fresh(0), x())), or(ge(x(), num(0)), eq(fresh(0), sub(x())))}, 1)
}

// ofAbs gives what is to hold of v, which stands for a's absolute value.
func ofAbs(v, a api.Term) []api.Term {
	return []api.Term{or(lt(a, num(0)), eq(v, a)), or(ge(a, num(0)), eq(v, sub(a)))}
}

// ofIte gives what is to hold of v, which stands for a choice.
func ofIte(v, c, a, b api.Term) []api.Term {
	return []api.Term{or(not(c), eq(v, a)), or(c, eq(v, b))}
}

func TestDo(t *testing.T) {
	q, three := apply("q", api.SBool), num(3)
	for _, c := range []struct {
		in, out    api.Term
		held       []api.Term
		from, next int
	}{
		{in: x(), out: x(), from: 5, next: 5},
		{in: num(-7), out: num(-7), from: -5, next: -5},
		{in: yes(), out: yes(), from: math.MinInt, next: math.MinInt},
		{in: no(), out: no(), from: math.MaxInt, next: math.MaxInt},
		{in: ite(p(), q, not(p())), out: ite(p(), q, not(p()))},
		{in: ite(lt(abs(x()), three), q, p()), out: ite(lt(fresh(2), three), q, p()), held: ofAbs(fresh(2), x()), from: 2, next: 3},
		{in: abs(three), out: fresh(9), held: ofAbs(fresh(9), three), from: 9, next: 10},
		{in: ite(p(), x(), three), out: fresh(99), held: ofIte(fresh(99), p(), x(), three), from: 99, next: 100},
		{in: ite(not(p()), x(), x()), out: fresh(0), held: ofIte(fresh(0), not(p()), x(), x()), next: 1},
		{in: not(eq(ite(p(), x(), y()), abs(y()))), out: not(eq(fresh(0), fresh(1))), held: slices.Concat(ofIte(fresh(0), p(), x(), y()), ofAbs(fresh(1), y())), next: 2},
		// two alike: two constants
		{in: sub(abs(x()), abs(x())), out: sub(fresh(7), fresh(8)), held: slices.Concat(ofAbs(fresh(7), x()), ofAbs(fresh(8), x())), from: 7, next: 9},
		// kids ahead of what they are in
		{in: abs(abs(abs(x()))), out: fresh(2), held: slices.Concat(ofAbs(fresh(0), x()), ofAbs(fresh(1), fresh(0)), ofAbs(fresh(2), fresh(1))), next: 3},
		{in: ite(eq(abs(x()), three), abs(y()), abs(f(x()))), out: fresh(4), held: slices.Concat(ofAbs(fresh(1), x()), ofAbs(fresh(2), y()), ofAbs(fresh(3), f(x())), ofIte(fresh(4), eq(fresh(1), three), fresh(2), fresh(3))), from: 1, next: 5},
		{in: f(abs(f(ite(p(), x(), f(abs(y())))))), out: f(fresh(2)), held: slices.Concat(ofAbs(fresh(0), y()), ofIte(fresh(1), p(), x(), f(fresh(0))), ofAbs(fresh(2), f(fresh(1)))), next: 3},
		{in: apply("g", api.SBool, abs(x()), p(), abs(y())), out: apply("g", api.SBool, fresh(0), p(), fresh(1)), held: slices.Concat(ofAbs(fresh(0), x()), ofAbs(fresh(1), y())), next: 2},
		{in: of(api.OMod, api.SInt, abs(x()), sub(three)), out: of(api.OMod, api.SInt, fresh(0), sub(three)), held: ofAbs(fresh(0), x()), next: 1},
		{in: of(api.OMul, api.SInt, sub(three), abs(x())), out: of(api.OMul, api.SInt, sub(three), fresh(0)), held: ofAbs(fresh(0), x()), next: 1},
		// a number below 0, and beyond the last
		{in: add(abs(x()), abs(y())), out: add(fresh(0), fresh(0)), held: slices.Concat(ofAbs(fresh(0), x()), ofAbs(fresh(0), y())), from: -2, next: 0},
		{in: add(abs(x()), abs(y())), out: add(fresh(0), fresh(0)), held: slices.Concat(ofAbs(fresh(0), x()), ofAbs(fresh(0), y())), from: -1, next: 1},
		{in: abs(x()), out: fresh(math.MaxInt), held: ofAbs(fresh(math.MaxInt), x()), from: math.MaxInt, next: math.MinInt},
		// names that are there already stay
		{in: abs(fresh(0)), out: fresh(0), held: ofAbs(fresh(0), fresh(0)), next: 1},
	} {
		checkTerms(t, c.in)
		checkDo(t, c.in, c.from, c.out, c.held, c.next)
	}
}

// TestTooLarge takes terms of which what is to hold has as many nodes as a term
// may have, and one more.
func TestTooLarge(t *testing.T) {
	checkAll := func(in api.Term, large bool) {
		t.Helper()
		checkTerms(t, in)
		want, r := do(in, 3)
		if large != (len(r.held) == 0) {
			t.Fatalf("%d are to hold", len(r.held))
		}
		checkDo(t, in, 3, want, r.held, r.next)
		if got := lift.Over(in, nil, 3); len(got) != len(r.names) {
			t.Errorf("P13.2: %d constants", len(got))
		}
	}
	for n := 190; n < 205; n++ {
		checkAll(abs(wide(n)), n > 197)
		checkAll(and(lt(abs(x()), abs(wide(n)))), n > 197) // the first would do
		checkAll(and(lt(abs(wide(n)), abs(x())), eq(ite(p(), x(), y()), x())), n > 197)
		checkAll(abs(abs(wide(n))), n > 197)
	}
	for _, n := range []int{1, 2, 3, 100, 198, 199, 200, 393, 394, 395} {
		checkAll(ite(wideBool(n), wide(396-n), x()), false)
		checkAll(ite(wideBool(n), x(), wide(397-n)), false)
		if n < 395 {
			checkAll(ite(wideBool(n), wide(397-n), x()), true)
			checkAll(ite(wideBool(n), x(), wide(398-n)), true)
		}
	}
	checkAll(ite(wideBool(100), wide(149), wide(149)), false)
	checkAll(within(399, x()), false)
	checkAll(within(200, wide(199)), true)
	checkAll(within(200, f(wide(197))), true)
	checkAll(f(within(200, wide(197))), false)
	checkDo(t, ite(wideBool(398), wide(1), x()), 0, ite(wideBool(398), wide(1), x()), nil, 0) // no term
}

// TestDoWhatIsNone: what is no term stays, as it stands.
func TestDoWhatIsNone(t *testing.T) {
	bad := api.Int{Neg: true, Mag: []uint32{0, api.Base}}
	for _, in := range []api.Term{
		{}, {Op: 99}, {Op: api.OAbs}, {Op: api.OIte, Sort: api.SInt}, {Op: api.OAbs, Sort: api.SInt, Kids: []api.Term{x(), x()}}, abs(p()), abs(api.Term{}), ite(x(), x(), x()), of(api.OIte, api.SInt, p(), p(), p()), of(api.OIte, api.SInt, p(), x()),
		{Op: api.ONum, Sort: api.SInt, N: bad}, {Op: api.OAbs, Sort: api.SInt, N: bad, Name: "x", Kids: []api.Term{x()}}, abs(api.Term{Op: api.ONum, Sort: api.SInt, N: bad}), {Op: api.OAbs, Sort: api.SBool, Kids: []api.Term{x()}},
		and(p(), lt(abs(x()), api.Term{})), and(api.Term{}, lt(abs(x()), y())), f(abs(apply("5", api.SInt))), apply("f", 3, abs(x())), of(api.ODiv, api.SInt, abs(x()), num(0)), of(api.OMul, api.SInt, x(), abs(num(2))), of(api.OMul, api.SInt, x(), ite(p(), num(2), num(2))),
		wide(401), abs(wide(400)), within(400, x()), within(nested-1, x()), add(abs(x()), wide(398)), of(api.OIte, api.SInt, slices.Repeat([]api.Term{p()}, 1000)...),
	} {
		if term.Is(in) {
			t.Fatalf("%s is a term", outline(in))
		}
		for _, from := range []int{0, 7, -7, math.MaxInt, math.MinInt} {
			checkDo(t, in, from, in, nil, from)
		}
		m := []api.Fun{constant("x", number(4))}
		checkOver(t, in, m, 0, m)
	}
}

// TestDoSome holds Do against a second reading of the chapter.
func TestDoSome(t *testing.T) {
	r := rand.New(rand.NewSource(1))
	times := map[int]int{}
	for range 8000 {
		in, from := someTerm(r, someSort(r), 5), pick(r, 0, 0, 2, 9, 1000, -1, -3, math.MaxInt-1, math.MinInt)
		if !term.Is(in) {
			continue
		}
		want, reads := do(in, from)
		times[min(len(reads.held), 6)]++
		checkDo(t, in, from, want, reads.held, reads.next)
		out, held, _ := lift.Do(in, from)
		for _, one := range append(held, out) {
			if !term.Is(one) || len(reads.held) > 0 && !lift.Pure(one) {
				t.Errorf("P13.1: %s isn't pure", outline(one))
			}
		}
		if out.Sort != in.Sort {
			t.Errorf("P13.1: %s isn't of %s's sort", outline(out), outline(in))
		}
	}
	for n := 0; n <= 6; n += 2 {
		if times[n] < 200 {
			t.Errorf("P13.1: %d came only %d times", n, times[n])
		}
	}
}

// TestDoAgain: of what is pure nothing is made.
func TestDoAgain(t *testing.T) {
	r := rand.New(rand.NewSource(2))
	for range 1000 {
		in := someTerm(r, someSort(r), 4)
		out, held, next := lift.Do(in, 20)
		if !lift.Pure(out) {
			continue
		}
		for _, one := range append(held, out) {
			checkDo(t, one, next, one, nil, next)
		}
	}
}

func checkPure(t *testing.T, in api.Term, want bool) {
	t.Helper()
	if lift.Pure(in) != want {
		t.Errorf("P13.1: Pure of %s: %t", brief(outline(in)), !want)
	}
}

func TestPure(t *testing.T) {
	for _, in := range []api.Term{
		x(), num(3), yes(), no(), p(), f(x()), wide(400), wideBool(400), ite(p(), p(), p()), ite(p(), ite(p(), no(), yes()), p()), sub(x()), of(api.ODiv, api.SInt, x(), num(2)), of(api.OMod, api.SInt, x(), num(2)), apply("abs", api.SInt, x()), apply("ite", api.SInt, p(), x(), x()),
		// what is no term is asked likewise
		{}, {Op: 99}, {Op: api.OIte}, {Op: api.OIte, Sort: 3}, wide(401), wide(100000), {Op: api.ONot, Kids: []api.Term{{}, {}}}, {Name: "abs"}, {Sort: api.OAbs},
	} {
		checkPure(t, in, true)
		checkPure(t, of(api.OAnd, api.SBool, p(), in, x()), true)
	}
	deep := x()
	for range nested - 1 {
		deep = sub(deep)
	}
	checkPure(t, deep, true)
	for _, in := range []api.Term{
		abs(x()), abs(num(3)), ite(p(), x(), x()), ite(p(), num(1), num(2)), abs(abs(x())), ite(ite(p(), no(), yes()), x(), x()),
		{Op: api.OAbs}, {Op: api.OAbs, Sort: api.SBool}, {Op: api.OIte, Sort: api.SInt}, abs(p()), abs(wide(400)), within(nested-1, x()),
	} {
		checkPure(t, in, false)
		for at := range 5 {
			kids := slices.Repeat([]api.Term{p()}, 5)
			kids[at] = in
			checkPure(t, of(api.OAnd, api.SBool, kids...), false)
			checkPure(t, of(api.ONum, api.SInt, x(), f(of(99, 0, kids...))), false)
			checkPure(t, ite(yes(), no(), of(api.OAdd, api.SInt, append(kids, wide(400))...)), false)
		}
	}
	checkPure(t, add(wide(500), abs(x())), false)
}

func TestPureSome(t *testing.T) {
	r := rand.New(rand.NewSource(3))
	times := map[bool]int{}
	for range 10000 {
		in := untidy(r, 1+r.Intn(3))
		times[plain(in)]++
		checkPure(t, in, plain(in))
	}
	for _, want := range []bool{true, false} {
		if times[want] < 2000 {
			t.Errorf("P13.1: %s only %d times", strconv.FormatBool(want), times[want])
		}
	}
}
