package term_test

import (
	"math/rand"
	"slices"
	"strings"
	"testing"

	"mullion/api"
	"mullion/term"
)

func signature(name string, ret int, args ...int) api.Sig {
	return api.Sig{Name: name, Args: args, Ret: ret}
}

func TestIsSig(t *testing.T) {
	for name, want := range map[string]bool{
		"a": true, "Z": true, "x1": true, "a0": true, "!0": true, "-5": true, "<=": true, "~!@$%^&*_-+=<>.?/": true, "not": true, "true": true, "Int": true,
		most: true, strings.Repeat("/", 20): true,
		"": false, most + "0": false, strings.Repeat("a", 5000): false, "5": false, "0": false, "5a": false, "a b": false, " a": false, "a ": false, "a\n": false,
		":a": false, "a:b": false, "(": false, "a)": false, ";": false, "a;": false, "é": false, "a\x00": false, "\xff": false, "#a": false, "|a|": false, "'": false,
	} {
		for _, args := range [][]int{nil, {}, {api.SInt}, {api.SBool, api.SInt}, {api.SInt, api.SInt, api.SBool}} {
			for _, ret := range []int{api.SBool, api.SInt} {
				if got := term.IsSig(signature(name, ret, args...)); got != want {
					t.Errorf("P10.1: IsSig of %q, %v, %d: %t", name, args, ret, got)
				}
			}
		}
	}
}

func TestIsSigOfSorts(t *testing.T) {
	for _, sort := range []int{0, 3, -1, 99, 1 << 32, 1<<32 + 1, -1 << 63} {
		for i, s := range []api.Sig{
			signature("f", sort), signature("f", sort, api.SInt), signature("f", api.SInt, sort), signature("f", api.SInt, sort, api.SBool),
			signature("f", api.SInt, api.SBool, sort), signature("f", api.SBool, api.SInt, api.SInt, sort),
		} {
			if term.IsSig(s) {
				t.Errorf("P10.1: IsSig of sort %d, row %d", sort, i)
			}
		}
	}
	for n := range 10 {
		if got := term.IsSig(signature("f", api.SInt, slices.Repeat([]int{api.SBool}, n)...)); got != (n <= api.MaxArgs) {
			t.Errorf("P10.1: IsSig of %d Args: %t", n, got)
		}
	}
	if term.IsSig(api.Sig{}) {
		t.Error("P10.1: IsSig of nothing")
	}
}

// checkApp holds all that App answers against what it is to.
func checkApp(t *testing.T, s api.Sig, l []api.Term, want api.Errno) {
	t.Helper()
	out := apply(s.Name, s.Ret, l...)
	if want != api.OK {
		out = api.Term{}
	}
	got, e := term.App(s, l)
	if outline(got) != outline(out) || e != want || term.Is(got) != (want == api.OK) {
		t.Errorf("P10.2: App(%s, %s): %s, %v, not %v", outlineSigs([]api.Sig{s}), brief(api.Term{Kids: l}), brief(got), e, want)
	}
}

func TestApp(t *testing.T) {
	const i, b = api.SInt, api.SBool
	bad, large := api.Term{}, wide(400)
	for _, c := range []struct {
		s    api.Sig
		l    []api.Term
		want api.Errno
	}{
		{signature("x", i), nil, api.OK},
		{signature("x", b), []api.Term{}, api.OK},
		{signature("f", i, i), []api.Term{x()}, api.OK},
		{signature("f", b, b, i), []api.Term{p(), number(3)}, api.OK},
		{signature("f", i, i, b, i), []api.Term{x(), yes(), apply("f", i, x())}, api.OK},
		{signature(most, i, i), []api.Term{number(-3)}, api.OK},
		{signature("not", b, i), []api.Term{x()}, api.OK},
		{signature("x", i), []api.Term{x()}, api.ErrArgs},
		{signature("f", i, i), nil, api.ErrArgs},
		{signature("f", i, i, i), []api.Term{x()}, api.ErrArgs},
		{signature("f", i, i, i), []api.Term{x(), x(), x()}, api.ErrArgs},
		{signature("f", i, i), []api.Term{p()}, api.ErrSort},
		{signature("f", i, i, b), []api.Term{p(), x()}, api.ErrSort},
		{signature("f", i, i, i, b), []api.Term{x(), x(), x()}, api.ErrSort},
		{signature("f", i, i), []api.Term{bad}, api.ErrForm},
		{signature("f", i, i, i), []api.Term{x(), {Op: api.ONum}}, api.ErrForm},
		{signature("f", i, i), []api.Term{wide(401)}, api.ErrForm},
		{signature("", i), nil, api.ErrForm},
		{signature("5", i), nil, api.ErrForm},
		{signature(most+"0", i, i), []api.Term{x()}, api.ErrForm},
		{signature("f", 0), nil, api.ErrForm},
		{signature("f", 3), nil, api.ErrForm},
		{signature("f", i, 0), []api.Term{x()}, api.ErrForm},
		{signature("f", i, i, i, i, i), slices.Repeat([]api.Term{x()}, 4), api.ErrForm},
		{signature("f", i, i), []api.Term{wide(399)}, api.OK},
		{signature("f", i, i), []api.Term{large}, api.ErrLarge},
		{signature("f", i, i, i), []api.Term{wide(200), wide(199)}, api.OK},
		{signature("f", i, i, i), []api.Term{wide(200), wide(200)}, api.ErrLarge},
		{signature("f", i, i, i, i), []api.Term{x(), large, large}, api.ErrLarge},
		// several errors: the first
		{signature("5", i, i), nil, api.ErrForm},
		{signature("f", i, i), []api.Term{bad, bad}, api.ErrArgs},
		{signature("f", i, i, i), []api.Term{p(), bad}, api.ErrForm},
		{signature("f", i, i, i), []api.Term{large, bad}, api.ErrForm},
		{signature("f", i, i, i), []api.Term{large, p()}, api.ErrSort},
	} {
		checkApp(t, c.s, c.l, c.want)
	}
}

func TestAppOfSome(t *testing.T) {
	r := rand.New(rand.NewSource(4))
	times := map[api.Errno]int{}
	for range 20000 {
		s := signature(pick(r, "f", "g", most, "", "5"), pick(r, 1, 2, 2, 1, 3))
		var l []api.Term
		for range r.Intn(5) {
			kid := someTerm(r, someSort(r), 2)
			if r.Intn(12) == 0 {
				kid = tampered(r, kid)
			}
			l = append(l, kid)
		}
		s.Args = sortsOf(l)
		if r.Intn(4) == 0 {
			s.Args = append(s.Args, 1)[r.Intn(2):]
		}
		want := refusedApp(s, l)
		times[want]++
		checkApp(t, s, l, want)
	}
	for _, e := range []api.Errno{api.OK, api.ErrForm, api.ErrArgs, api.ErrSort} {
		if times[e] < 200 {
			t.Errorf("P10.2: only %d were %v", times[e], e)
		}
	}
}
