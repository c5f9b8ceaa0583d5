package sort_test

import (
	"math/rand"
	"slices"
	"strings"
	"testing"

	"mullion/api"
	"mullion/sort"
	"mullion/term"
	"mullion/tree"
	"mullion/whole"
)

// checkTerm holds all that Term answers against what it is to.
func checkTerm(t *testing.T, of string, in api.Tree, l []api.Sig, want api.Term, wantE api.Errno) {
	t.Helper()
	got, e := sort.Term(in, l)
	if outline(got) != outline(want) || e != wantE {
		t.Errorf("P11.2: Term(%s): %s, %v, not %s, %v", brief(of), brief(outline(got)), e, brief(outline(want)), wantE)
	}
	if term.Is(got) != (e == api.OK) {
		t.Errorf("P11.2: Term(%s): %s, a term: %t", brief(of), brief(outline(got)), term.Is(got))
	}
}

func checkReads(t *testing.T, all map[string]api.Term) {
	t.Helper()
	for s, want := range all {
		checkTerm(t, s, read(t, s), declared(), want, api.OK)
	}
}

func checkRefuses(t *testing.T, all map[string]api.Errno) {
	t.Helper()
	for s, want := range all {
		checkTerm(t, s, read(t, s), declared(), api.Term{}, want)
	}
}

func TestLeaves(t *testing.T) {
	checkReads(t, map[string]api.Term{
		"0": number(0), "5": number(5), "999999999": number(999999999), "1000000000": number(1000000000), "9223372036854775808": term.Num(whole.Neg(whole.Of(-1 << 63))),
		"true": yes(), "false": no(), "x": x(), "p": p(), most: apply(most, api.SInt), "not": apply("not", api.SBool), "!0": apply("!0", api.SInt),
	})
	checkRefuses(t, map[string]api.Errno{
		"w": api.ErrName, "True": api.ErrName, "Int": api.ErrName, "Bool": api.ErrName, "let": api.ErrName, "and": api.ErrName, "-": api.ErrName, "-5": api.ErrName, "X": api.ErrName, most[1:]: api.ErrName, "!1": api.ErrName,
		":x": api.ErrForm, ":true": api.ErrForm, ":w": api.ErrForm, "()": api.ErrForm, "f": api.ErrArgs, "g": api.ErrArgs, "twice": api.ErrArgs, "none": api.ErrForm, "four": api.ErrForm, "odd": api.ErrForm,
	})
}

func TestNumbers(t *testing.T) {
	long := strings.Repeat("123456789", 40)
	n := api.Int{Mag: slices.Repeat([]uint32{123456789}, 40)}
	checkReads(t, map[string]api.Term{long: {Op: api.ONum, N: n, Sort: api.SInt}, "(- " + long + ")": negative(term.Num(n))})
	checkRefuses(t, map[string]api.Errno{
		long + "0": api.ErrLarge, strings.Repeat("9", api.MaxBytes): api.ErrLarge, "(+ x " + long + "0 w)": api.ErrLarge, "(+ w " + long + "0)": api.ErrName, "(f " + long + "0)": api.ErrLarge,
		"(let ((a " + long + "0)) w)": api.ErrLarge, "(let ((a 1)) " + long + "0)": api.ErrLarge, "(div " + long + "0 0)": api.ErrLarge, "(" + long + "0)": api.ErrForm,
	})
}

// TestOperators takes each word with kids of two sorts, and of all lengths.
func TestOperators(t *testing.T) {
	for word, op := range operators {
		for n := range 6 {
			for _, kid := range []api.Term{x(), p(), number(2)} {
				kids := slices.Repeat([]api.Term{kid}, n)
				want, e := term.Make(op, kids)
				in := list(slices.Insert(slices.Repeat([]api.Tree{sort.Tree(kid)}, n), 0, symbol(word))...)
				checkTerm(t, print(in), in, declared(), want, e)
			}
		}
	}
	checkReads(t, map[string]api.Term{
		"(+ x 2 y)": sum(x(), number(2), y()), "(- 5)": negative(number(5)), "(- (- 5))": negative(negative(number(5))), "(- x y 1)": of(api.OSub, api.SInt, x(), y(), number(1)),
		"(* (- 2) x)": of(api.OMul, api.SInt, negative(number(2)), x()), "(ite p 1 (mod x 3))": of(api.OIte, api.SInt, p(), number(1), of(api.OMod, api.SInt, x(), number(3))),
		"(ite p p true)": of(api.OIte, api.SBool, p(), p(), yes()), "(= (not p) false)": of(api.OEq, api.SBool, of(api.ONot, api.SBool, p()), no()), "(not not)": of(api.ONot, api.SBool, apply("not", api.SBool)),
		"(distinct (abs x) (div y (- 3)))": of(api.ODistinct, api.SBool, of(api.OAbs, api.SInt, x()), of(api.ODiv, api.SInt, y(), negative(number(3)))),
	})
	checkRefuses(t, map[string]api.Errno{
		"(+)": api.ErrArgs, "(not)": api.ErrArgs, "(not p p)": api.ErrArgs, "(+ x p)": api.ErrSort, "(* x y)": api.ErrLinear, "(* (- (- 2)) x)": api.ErrLinear, "(div x 0)": api.ErrZero, "(div x (- 0))": api.ErrZero, "(mod x (+ 2))": api.ErrLinear,
		"(not (w))": api.ErrName, "(and p (not x) w)": api.ErrSort, "(and p w (not x))": api.ErrName, "(not w p)": api.ErrName, "(* x y w)": api.ErrName, "(+ x p w)": api.ErrName, "(div x ())": api.ErrForm, "(div x :k)": api.ErrForm,
		"(not (not (not (+))))": api.ErrArgs, "(xor p p p)": api.ErrArgs, "(xor x)": api.ErrArgs, "(- (f p) ())": api.ErrSort, "(- () (f p))": api.ErrForm,
	})
}

func TestLists(t *testing.T) {
	checkReads(t, map[string]api.Term{
		"(x)": x(), "(p)": p(), "(f x)": f(x()), "(f (f 0))": f(f(number(0))), "(g y p)": apply("g", api.SBool, y(), p()), "(h p x (x))": apply("h", api.SInt, p(), x(), x()), "(!0)": apply("!0", api.SInt), "(twice 1)": apply("twice", api.SBool, number(1)),
		"(f (ite (k (g x p)) x y))": f(of(api.OIte, api.SInt, apply("k", api.SBool, apply("g", api.SBool, x(), p())), x(), y())),
	})
	checkRefuses(t, map[string]api.Errno{
		"()": api.ErrForm, "(())": api.ErrForm, "(5)": api.ErrForm, "(5 x)": api.ErrForm, "((f) x)": api.ErrForm, "((+ x))": api.ErrForm, "(:k x)": api.ErrForm, "(:+ x)": api.ErrForm, "((x) (f p))": api.ErrForm, "(5 w)": api.ErrForm,
		"(w)": api.ErrName, "(w x)": api.ErrName, "(w (f p))": api.ErrName, "(w ())": api.ErrName, "(true)": api.ErrName, "(false x)": api.ErrName, "(Int)": api.ErrName, "(Int x)": api.ErrName, "(Bool (f p))": api.ErrName, "(!1 5)": api.ErrName,
		"(f)": api.ErrArgs, "(f x x)": api.ErrArgs, "(x y)": api.ErrArgs, "(f p)": api.ErrSort, "(g x x)": api.ErrSort, "(g p x)": api.ErrSort, "(twice p)": api.ErrSort, "(twice)": api.ErrArgs, "(x p)": api.ErrArgs,
		"(f w)": api.ErrName, "(f w w)": api.ErrName, "(f p w)": api.ErrName, "(g (f p) w)": api.ErrSort, "(g w (f p))": api.ErrName, "(h p () w)": api.ErrForm,
		"(none)": api.ErrForm, "(none w)": api.ErrName, "(none x y)": api.ErrForm, "(four x)": api.ErrForm, "(four x y x y)": api.ErrForm, "(four x y x w)": api.ErrName, "(odd x y)": api.ErrForm, "(odd x)": api.ErrForm,
	})
}

// TestWordsAsSigs: what is declared by a word of the language counts where the
// word isn't taken for itself.
func TestWordsAsSigs(t *testing.T) {
	var l []api.Sig
	for _, s := range append(slices.Clone(others), "and", "+", "<") {
		l = append(l, signature(s, api.SInt), signature(s, api.SBool, api.SInt))
	}
	for s, want := range map[string]api.Term{"true": yes(), "false": no(), "Int": apply("Int", api.SInt), "let": apply("let", api.SInt), "and": apply("and", api.SInt), "(+ + <)": sum(apply("+", api.SInt), apply("<", api.SInt)), "(let ((a +)) a)": apply("+", api.SInt)} {
		checkTerm(t, s, read(t, s), l, want, api.OK)
	}
	for s, want := range map[string]api.Errno{"(and)": api.ErrArgs, "(+)": api.ErrArgs, "(let)": api.ErrForm, "(let 5)": api.ErrForm, "(and +)": api.ErrSort, "(true)": api.ErrName, "(false)": api.ErrName, "(Int)": api.ErrName, "(Bool)": api.ErrName, "(let ((a (Int))) a)": api.ErrName} {
		checkTerm(t, s, read(t, s), l, api.Term{}, want)
	}
}

// TestWordsThatBeginNoList: a List that begins with one of these words is ErrName
// ahead of all that its other kids err in, whatever is declared by it.
func TestWordsThatBeginNoList(t *testing.T) {
	for _, head := range []string{"true", "false", "Int", "Bool"} {
		x, p := signature("x", api.SInt), signature("p", api.SBool)
		for i, l := range [][]api.Sig{
			{x, p}, {x, p, signature(head, api.SBool)}, {x, p, signature(head, api.SInt, api.SInt)}, {signature(head, api.SBool, api.SBool), x, p, signature(head, api.SInt)}, {signature(head, 9), x, p}, {x, p, signature(head, api.SInt, api.SInt, api.SBool, api.SInt)},
		} {
			for _, s := range []string{
				"(W)", "(W x)", "(W p)", "(W x p)", "(W x p x)", "(W ())", "(W w)", "(W (+ x p))", "(W W)", "(W (W))", "(W " + strings.Repeat("9", 361) + ")", "(W :k (div x 0))",
				"(not (W))", "(+ (W x) x)", "(- (W) ())", "(ite (W p) w (f p))", "(let ((a (W x))) a)", "(let ((a 1)) (W a))", "(let ((a 1) (b (W))) w)", "(abs (abs (W x)))",
			} {
				in := strings.ReplaceAll(s, "W", head)
				checkTerm(t, in+", row "+string(rune('0'+i)), read(t, in), l, api.Term{}, api.ErrName)
			}
			for s, e := range map[string]api.Errno{"((W) x)": api.ErrForm, "(:W x)": api.ErrForm, "(+ x p (W))": api.ErrName, "(+ (+ x p) (W))": api.ErrSort, "(+ () (W))": api.ErrForm, "(let ((W x)) x)": api.ErrName, "(let ((a (+))) (W))": api.ErrArgs, "(let ((a 1)) (a W))": api.ErrForm} {
				in := strings.ReplaceAll(s, "W", head)
				checkTerm(t, in+", row "+string(rune('0'+i)), read(t, in), l, api.Term{}, e)
			}
		}
	}
}

// TestFirstSig: of two Sigs of one name the first counts, whatever it is.
func TestFirstSig(t *testing.T) {
	one, other, bad := signature("c", api.SInt), signature("c", api.SBool, api.SInt), signature("c", 9)
	for i, c := range []struct {
		s    string
		l    []api.Sig
		want api.Term
		e    api.Errno
	}{
		{"c", nil, api.Term{}, api.ErrName},
		{"c", []api.Sig{}, api.Term{}, api.ErrName},
		{"c", []api.Sig{one}, apply("c", api.SInt), api.OK},
		{"c", []api.Sig{one, other}, apply("c", api.SInt), api.OK},
		{"c", []api.Sig{other, one}, api.Term{}, api.ErrArgs},
		{"(c 5)", []api.Sig{other, one, bad}, apply("c", api.SBool, number(5)), api.OK},
		{"(c 5)", []api.Sig{one, other}, api.Term{}, api.ErrArgs},
		{"c", []api.Sig{bad, one, other}, api.Term{}, api.ErrForm},
		{"c", []api.Sig{signature("C", api.SBool), signature("cc", api.SBool), signature("", api.SBool), one}, apply("c", api.SInt), api.OK},
	} {
		checkTerm(t, "row "+string(rune('0'+i)), read(t, c.s), c.l, c.want, c.e)
	}
}

// TestNoTrees: what isn't tree's Is is ErrForm, whatever else it has.
func TestNoTrees(t *testing.T) {
	tok := api.Token{Kind: api.TSymbol, Text: "x"}
	for of, in := range map[string]api.Tree{
		"nothing": {}, "no Text": symbol(""), "Text of no symbol": symbol("a b"), "a number of no digits": leaf(api.TNumber, "x"), "a number with a nought": leaf(api.TNumber, "05"), "a symbol of digits": symbol("5"), "a Kind": leaf(9, "x"), "TLeft": leaf(api.TLeft, ""),
		"a List with a Tok": {List: true, Tok: tok}, "a word with Kids": {Tok: tok, Kids: []api.Tree{symbol("x")}}, "a kid of a List": list(symbol("+"), symbol("x"), api.Tree{}), "a kid behind an error": list(symbol("+"), symbol("w"), symbol("a b")),
		"a kid of what isn't declared": list(symbol("w"), api.Tree{}), "a name that is too long": symbol(most + "0"), "a number that is too long": leaf(api.TNumber, strings.Repeat("1", api.MaxBytes+1)), "in a let": list(symbol("let"), list(list(symbol("a"), api.Tree{})), symbol("a")),
		"too deep": within(61, symbol("w")), "much too deep": within(nested, symbol("x")), "too many": list(slices.Repeat([]api.Tree{symbol("+")}, 400)...), "much too many": list(slices.Repeat([]api.Tree{symbol("w")}, 1<<16)...),
	} {
		if tree.Is(in) {
			t.Errorf("P11.2: %s is a tree", of)
		}
		checkTerm(t, of, in, declared(), api.Term{}, api.ErrForm)
	}
}

func TestLimits(t *testing.T) {
	many := func(n int) api.Tree {
		return list(slices.Insert(slices.Repeat([]api.Tree{symbol("x")}, n), 0, symbol("+"))...)
	}
	checkTerm(t, "398 kids", many(398), declared(), sum(slices.Repeat([]api.Term{x()}, 398)...), api.OK)
	checkTerm(t, "399 kids", many(399), declared(), api.Term{}, api.ErrForm)
	checkTerm(t, "60 deep", within(60, symbol("x")), declared(), absolute(60, x()), api.OK)
	checkTerm(t, "60 deep, an error within", within(60, symbol("w")), declared(), api.Term{}, api.ErrName)
	checkTerm(t, "61 deep", within(61, symbol("x")), declared(), api.Term{}, api.ErrForm)
}

// TestTermsTooLarge: by lets a tree tells terms of more nodes than it has.
func TestTermsTooLarge(t *testing.T) {
	const hundred = "(let ((a (+ x x x x x x x x x))) (let ((b (+ a a a a a a a a a x x x x x x x x x)))"
	a := sum(slices.Repeat([]api.Term{x()}, 9)...)                                                  // 10 nodes
	b := sum(append(slices.Repeat([]api.Term{a}, 9), slices.Repeat([]api.Term{x()}, 9)...)...)      // 100 nodes
	c := sum(b, b, b, a, a, a, a, a, a, a, a, a, x(), x(), x(), x(), x(), x(), x(), x(), number(2)) // 400 nodes
	checkReads(t, map[string]api.Term{
		hundred + " b))": b, hundred + " (+ b b b a a a a a a a a a x x x x x x x x 2)))": c,
		hundred + " (let ((c (- b b b a a a a a a a a a x x x x x x x x)) (d (- b b b a a a a a a a a a x x x x x x x x))) (f x))))": f(x()),
	})
	checkRefuses(t, map[string]api.Errno{
		hundred + " (+ b b b a a a a a a a a a x x x x x x x x x x)))":            api.ErrLarge,
		hundred + " (f (+ b b b a a a a a a a a a x x x x x x x x x))))":          api.ErrLarge,
		hundred + " (+ b b b b w)))":                                              api.ErrName,
		hundred + " (and b b b b)))":                                              api.ErrSort,
		hundred + " (let ((d (+ b b b b))) w)))":                                  api.ErrLarge,
		hundred + " (let ((d (+ b b b b)) (d w)) w)))":                            api.ErrName,
		hundred + " (let ((e w) (d (+ b b b b))) x)))":                            api.ErrName,
		hundred + " (let ((d (+ b b b b)) (e w)) x)))":                            api.ErrLarge,
		strings.Repeat("(let ((x (+ x x))) ", 44) + "x" + strings.Repeat(")", 44): api.ErrLarge,
	})
}

// TestSomeTerms holds Term against the document's words, read without it.
func TestSomeTerms(t *testing.T) {
	r := rand.New(rand.NewSource(2))
	times := map[api.Errno]int{}
	for range 12000 {
		s := someScript(r, someSort(r), 5, nil)
		if len(s) > api.MaxBytes {
			continue
		}
		words := firstTree(s)
		if !tree.Is(words) {
			continue
		}
		want, e := meant(words, declared(), nil)
		times[e]++
		checkTerm(t, s, words, declared(), want, e)
	}
	for _, e := range []api.Errno{api.OK, api.ErrForm, api.ErrLarge, api.ErrZero, api.ErrName, api.ErrSort, api.ErrArgs, api.ErrLinear} {
		if times[e] < 20 {
			t.Errorf("P11.2: only %d were %v", times[e], e)
		}
	}
}
