package sort_test

import (
	"math/rand"
	"slices"
	"strings"
	"testing"

	"mullion/api"
	"mullion/digits"
	"mullion/sort"
	"mullion/term"
	"mullion/tree"
	"mullion/whole"
)

// checkTree holds all that Tree answers against what it is to.
func checkTree(t *testing.T, of string, in api.Term, want api.Tree) {
	t.Helper()
	if got := sort.Tree(in); outlineTree(got) != outlineTree(want) {
		t.Errorf("P11.3: Tree of %s: %s, not %s", brief(of), brief(outlineTree(got)), brief(outlineTree(want)))
	}
}

func TestTree(t *testing.T) {
	const n, b = api.SInt, api.SBool
	for s, in := range map[string]api.Term{
		"0": number(0), "5": number(5), "1000000007": number(1000000007), "(- 5)": number(-5), "(- (- 5))": negative(number(-5)), "(- (- 9) 9)": of(api.OSub, n, number(-9), number(9)), "(- 1)": negative(number(1)),
		"true": yes(), "false": no(), "x": x(), "p": p(), most: apply(most, n), "!0": apply("!0", n), "and": apply("and", b),
		"(f x)": f(x()), "(f (f (- 1)))": f(f(number(-1))), "(g y p)": apply("g", b, y(), p()), "(h true x 3)": apply("h", n, yes(), x(), number(3)),
		"(not p)": of(api.ONot, b, p()), "(and p)": of(api.OAnd, b, p()), "(and p p false)": of(api.OAnd, b, p(), p(), no()), "(or p p)": of(api.OOr, b, p(), p()), "(xor p p)": of(api.OXor, b, p(), p()), "(=> p p)": of(api.OImplies, b, p(), p()),
		"(= x y)": of(api.OEq, b, x(), y()), "(= p p)": of(api.OEq, b, p(), p()), "(distinct x y 1)": of(api.ODistinct, b, x(), y(), number(1)), "(ite p x y)": of(api.OIte, n, p(), x(), y()), "(ite p p p)": of(api.OIte, b, p(), p(), p()),
		"(+ x)": sum(x()), "(+ x y x)": sum(x(), y(), x()), "(- x)": negative(x()), "(- x y)": of(api.OSub, n, x(), y()), "(* 2 x)": of(api.OMul, n, number(2), x()), "(* x (- 2))": of(api.OMul, n, x(), number(-2)),
		"(div x 3)": of(api.ODiv, n, x(), number(3)), "(mod x (- 3))": of(api.OMod, n, x(), number(-3)), "(abs x)": of(api.OAbs, n, x()), "(<= x y)": of(api.OLe, b, x(), y()), "(< x y)": of(api.OLt, b, x(), y()), "(>= x y)": of(api.OGe, b, x(), y()), "(> x y)": of(api.OGt, b, x(), y()),
		"(+ (abs (f x)) (ite (not p) (- 1) 1))": sum(of(api.OAbs, n, f(x())), of(api.OIte, n, of(api.ONot, b, p()), number(-1), number(1))),
	} {
		checkTree(t, s, in, read(t, s))
	}
}

func TestTreeOfNoTerm(t *testing.T) {
	for i, in := range []api.Term{
		{}, {Op: api.ONum}, {Op: api.OTrue}, {Op: 99, Sort: api.SBool}, {Op: -1, Kids: []api.Term{x()}}, {Op: api.ONum, Sort: api.SInt, N: api.Int{Neg: true}}, {Op: api.ONum, Sort: api.SInt, N: api.Int{Mag: []uint32{api.Base}}}, {Op: api.ONum, Sort: api.SBool},
		apply("", api.SInt), apply("a b", api.SInt), apply("5", api.SInt), apply("x", 3), apply(most+"0", api.SInt), apply("f", api.SInt, x(), x(), x(), x()), apply("f", api.SInt, api.Term{}),
		of(api.ONot, api.SBool), of(api.ONot, api.SBool, x()), of(api.OAdd, api.SInt), of(api.OAdd, api.SBool, x()), of(api.OMul, api.SInt, x(), y()), of(api.ODiv, api.SInt, x(), number(0)), sum(x(), sum(y(), api.Term{})), sum(x(), p()),
		{Op: api.OTrue, Sort: api.SBool, Name: "x"}, {Op: api.OApp, Name: "x", Sort: api.SInt, N: whole.Of(1)}, absolute(400, x()), absolute(nested-1, x()), sum(slices.Repeat([]api.Term{x()}, 400)...), doubled(60, x()),
	} {
		if term.Is(in) {
			t.Errorf("P11.3: row %d is a term", i)
		}
		checkTree(t, "row "+outline(api.Term{Op: i}), in, symbol("false"))
	}
}

// doubled gives t in n sums of two alike, which lie on the same memory.
func doubled(n int, t api.Term) api.Term {
	for range n {
		t = sum(t, t)
	}
	return t
}

// TestTreePastTrees: a term is told, also where its tree is one of too many
// nodes, too deep, or of a word that is too long.
func TestTreePastTrees(t *testing.T) {
	many := slices.Repeat([]api.Term{number(-1)}, 399)
	kids := slices.Insert(slices.Repeat([]api.Tree{list(symbol("-"), leaf(api.TNumber, "1"))}, 399), 0, symbol("+"))
	checkTree(t, "many", sum(many...), list(kids...))
	checkTree(t, "deep", absolute(399, x()), within(399, symbol("x")))
	checkTree(t, "deep, but a tree", absolute(60, x()), within(60, symbol("x")))
	limbs := slices.Repeat([]uint32{999999999}, 500)
	text := leaf(api.TNumber, strings.Repeat("9", 4500))
	checkTree(t, "long", term.Num(api.Int{Mag: limbs}), text)
	checkTree(t, "long, below 0", term.Num(api.Int{Neg: true, Mag: limbs}), list(symbol("-"), text))
}

// TestTreeNumbers: a number's tree has the words that digits' Print has.
func TestTreeNumbers(t *testing.T) {
	r := rand.New(rand.NewSource(3))
	for range 2000 {
		n := whole.Of(int64(r.Uint64()) >> r.Intn(64))
		for range r.Intn(3) {
			n = whole.Mul(n, whole.Of(int64(r.Uint64())))
		}
		checkTree(t, digits.Print(n), term.Num(n), read(t, digits.Print(n)))
	}
}

// again gives what t is when it is told and read: each number below 0 is the
// negative of the one above it.
func again(t api.Term) api.Term {
	if t.Op == api.ONum && t.N.Neg {
		return negative(term.Num(whole.Neg(t.N)))
	}
	kids := []api.Term{}
	for _, kid := range t.Kids {
		kids = append(kids, again(kid))
	}
	t.Kids = kids
	return t
}

// TestToldIsRead holds what is read of what is told against the term: wherever
// a tree may tell it.
func TestToldIsRead(t *testing.T) {
	r := rand.New(rand.NewSource(4))
	read := 0
	for range 6000 {
		in := someTerm(r, someSort(r), 5)
		want := again(in)
		told := sort.Tree(in)
		if !term.Is(want) || !tree.Is(told) {
			continue // a product by the negative of a number below 0; too many nodes
		}
		got, e := sort.Term(told, declared())
		if outline(got) != outline(want) || e != api.OK {
			t.Errorf("P11.4: %s: %s, %v", print(told), outline(got), e)
		}
		if once := sort.Tree(got); print(once) != print(told) {
			t.Errorf("P11.4: %s, then %s", print(told), print(once))
		}
		read++
	}
	if read < 5000 {
		t.Errorf("P11.4: only %d were read", read)
	}
}

// TestReadIsTold holds what is told of what is read against the script.
func TestReadIsTold(t *testing.T) {
	for _, s := range []string{
		"5", "x", "true", "( - 5 )", "( f x )", "( + x 2 ( - 5 ) )", "( ite p ( g y p ) ( not p ) )", "( distinct x ( mod y 3 ) ( * 2 x ) )", "( xor p ( => p p ) )",
		"( and ( or p ) ( < x y ) ( > x y ) ( <= x y ) ( >= x y ) ( = x y ) )", "( abs ( div x 7 ) )", "( h p ( - x ) ( - ( - 3 ) ) )", strings.Repeat("9", 360),
	} {
		in, e := sort.Term(read(t, s), declared())
		if got := print(sort.Tree(in)); got != s || e != api.OK {
			t.Errorf("P11.4: %s: %s, %v", s, got, e)
		}
	}
}
