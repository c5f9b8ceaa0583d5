package term_test

import (
	"math/rand"
	"slices"
	"strconv"
	"testing"

	"mullion/api"
	"mullion/term"
)

func checkSigs(t *testing.T, in api.Term, want []api.Sig, alike bool) {
	t.Helper()
	got, ok := term.Sigs(in)
	if outlineSigs(got) != outlineSigs(want) || ok != alike {
		t.Errorf("P10.3: Sigs of %s: %s%t, not %s%t", brief(in), outlineSigs(got), ok, outlineSigs(want), alike)
	}
}

func TestSigs(t *testing.T) {
	const i, b = api.SInt, api.SBool
	f := apply("f", i, x(), p())
	for _, c := range []struct {
		t    api.Term
		want []api.Sig
	}{
		{number(3), nil},
		{yes(), nil},
		{of(api.OAdd, i, number(3), number(4)), nil},
		{x(), []api.Sig{signature("x", i)}},
		{p(), []api.Sig{signature("p", b)}},
		{of(api.OAdd, i, x(), x(), x()), []api.Sig{signature("x", i)}},
		{f, []api.Sig{signature("f", i, i, b), signature("p", b), signature("x", i)}},
		{of(api.OEq, b, f, of(api.OAdd, i, constant("a", i), f)), []api.Sig{signature("a", i), signature("f", i, i, b), signature("p", b), signature("x", i)}},
		{apply("f", i, apply("f", i, apply("f", i, number(1)))), []api.Sig{signature("f", i, i)}},
		{apply("g", b, x(), x(), f), []api.Sig{signature("f", i, i, b), signature("g", b, i, i, i), signature("p", b), signature("x", i)}},
		// byte by byte
		{of(api.OAdd, i, constant("a", i), constant("B", i), constant("ab", i), constant("a!", i), constant("~", i), constant("A", i), constant("aa", i), constant("!1", i), constant("!10", i), constant("!2", i)),
			[]api.Sig{signature("!1", i), signature("!10", i), signature("!2", i), signature("A", i), signature("B", i), signature("a", i), signature("a!", i), signature("aa", i), signature("ab", i), signature("~", i)}},
	} {
		checkSigs(t, c.t, c.want, true)
	}
}

// TestSigsUnlike takes names that stand for several things: the first counts, a
// term ahead of its kids, the kids from the first on.
func TestSigsUnlike(t *testing.T) {
	const i, b = api.SInt, api.SBool
	constants := func(sorts ...int) []api.Term {
		var out []api.Term
		for _, sort := range sorts {
			out = append(out, constant("x", sort))
		}
		return out
	}
	for _, c := range []struct {
		t    api.Term
		want []api.Sig
	}{
		{of(api.OIte, i, constants(b, i, i)...), []api.Sig{signature("x", b)}},
		{of(api.OIte, i, of(api.OLe, b, constants(i, i)...), x(), x()), nil},
		{of(api.OAnd, b, of(api.OLe, b, constants(i, i)...), constant("x", b)), []api.Sig{signature("x", i)}},
		{of(api.OAnd, b, constant("x", b), of(api.OLe, b, constants(i, i)...)), []api.Sig{signature("x", b)}},
		{of(api.OAnd, b, of(api.ONot, b, of(api.ONot, b, of(api.OLe, b, constants(i, i)...))), constant("x", b)), []api.Sig{signature("x", i)}},
		{apply("x", i, x()), []api.Sig{signature("x", i, i)}},
		{apply("x", i, apply("x", i, number(1), number(2)), apply("x", i)), []api.Sig{signature("x", i, i, i)}},
		{apply("x", i, apply("x", i, number(1)), number(2)), []api.Sig{signature("x", i, i, i)}},
		{apply("x", b, number(1), apply("x", i, number(1), number(2))), []api.Sig{signature("x", b, i, i)}},
		{apply("g", i, apply("f", i, yes()), apply("f", i, number(2))), []api.Sig{signature("f", i, b), signature("g", i, i, i)}},
		{apply("g", i, apply("f", i, number(2)), apply("f", i, yes()), apply("f", i, number(3))), []api.Sig{signature("f", i, i), signature("g", i, i, i, i)}},
		{of(api.OAdd, i, apply("f", i, x(), yes()), apply("f", i, yes(), x())), []api.Sig{signature("f", i, i, b), signature("x", i)}},
	} {
		if c.want == nil {
			c.want = []api.Sig{signature("x", i)}
			checkSigs(t, c.t, c.want, true)
			continue
		}
		checkSigs(t, c.t, c.want, false)
	}
}

// TestSigsOfMany takes as many names as a term may have.
func TestSigsOfMany(t *testing.T) {
	var kids []api.Term
	var want []api.Sig
	for n := range api.MaxNodes - 1 {
		name := "a" + strconv.Itoa(1000+n)
		want = append(want, signature(name, api.SInt))
		kids = append(kids, constant(name, api.SInt))
	}
	checkSigs(t, of(api.OAdd, api.SInt, kids...), want, true)
	slices.Reverse(kids)
	checkSigs(t, of(api.OAdd, api.SInt, kids...), want, true)
	checkSigs(t, of(api.OAdd, api.SInt, append(kids, x())...), nil, true)
}

func TestSigsOfNoTerm(t *testing.T) {
	for _, in := range []api.Term{
		{}, {Op: 99, Kids: []api.Term{x()}}, apply("5", api.SInt), apply("f", api.SInt, api.Term{}), apply("f", 3, x()), wide(401), within(nested-1, x()),
		of(api.OAdd, api.SInt, x(), p()), of(api.OMul, api.SInt, x(), x()), of(api.OAnd, api.SBool, p(), apply("p", api.SBool, api.Term{Op: api.ONum})),
	} {
		checkSigs(t, in, nil, true)
	}
}

func TestSigsOfSome(t *testing.T) {
	r := rand.New(rand.NewSource(9))
	unlike := 0
	for range 5000 {
		in := someTerm(r, someSort(r), 4)
		if term.Count(in) > api.MaxNodes {
			continue
		}
		want, alike := sigsOf(in)
		checkSigs(t, in, want, alike)
		if !alike {
			unlike++
		}
	}
	if unlike < 100 || unlike > 4900 {
		t.Errorf("P10.3: %d of 5000 have a name that stands for several things", unlike)
	}
}
