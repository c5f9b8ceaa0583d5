package sort_test

import (
	"math/rand"
	"slices"
	"strconv"
	"strings"
	"testing"

	"mullion/api"
	"mullion/lex"
	"mullion/term"
	"mullion/tree"
	"mullion/whole"
)

const (
	most   = "abcdefghij0123456789" // as many bytes as a name may have
	nested = 1 << 16                // as deep as anything that is given may be
)

// What the document names: the operators, the other words.
var (
	operators = map[string]int{
		"not": api.ONot, "and": api.OAnd, "or": api.OOr, "xor": api.OXor, "=>": api.OImplies, "=": api.OEq, "distinct": api.ODistinct, "ite": api.OIte, "+": api.OAdd,
		"-": api.OSub, "*": api.OMul, "div": api.ODiv, "mod": api.OMod, "abs": api.OAbs, "<=": api.OLe, "<": api.OLt, ">=": api.OGe, ">": api.OGt,
	}
	others = []string{"true", "false", "let", "Int", "Bool"}
)

func signature(name string, ret int, args ...int) api.Sig {
	return api.Sig{Name: name, Args: args, Ret: ret}
}

// declared gives Sigs, some of one name, some of names that are Reserved, and
// some that are none.
func declared() []api.Sig {
	const i, b = api.SInt, api.SBool
	return []api.Sig{
		signature("x", i), signature("y", i), signature("z", i), signature("p", b), signature("q", b), signature(most, i),
		signature("f", i, i), signature("g", b, i, b), signature("h", i, b, i, i), signature("k", b, b),
		signature("x", b), signature("f", b, b), signature("twice", b, i), signature("twice", i),
		signature("not", b), signature("!0", i), signature("none", 3), signature("none", i), signature("four", i, i, i, i, i), signature("odd", i, i, 0), signature("", i), signature("5", i),
	}
}

// The terms and trees below are written out, without the program.

func number(n int64) api.Term { return api.Term{Op: api.ONum, N: whole.Of(n), Sort: api.SInt} }

func apply(name string, sort int, kids ...api.Term) api.Term {
	return api.Term{Op: api.OApp, Name: name, Sort: sort, Kids: kids}
}

func of(op, sort int, kids ...api.Term) api.Term { return api.Term{Op: op, Sort: sort, Kids: kids} }

func negative(t api.Term) api.Term { return of(api.OSub, api.SInt, t) }

func sum(kids ...api.Term) api.Term { return of(api.OAdd, api.SInt, kids...) }

func yes() api.Term { return api.Term{Op: api.OTrue, Sort: api.SBool} }

func no() api.Term { return api.Term{Op: api.OFalse, Sort: api.SBool} }

func x() api.Term { return apply("x", api.SInt) }

func y() api.Term { return apply("y", api.SInt) }

func p() api.Term { return apply("p", api.SBool) }

func f(t api.Term) api.Term { return apply("f", api.SInt, t) }

func leaf(kind int, text string) api.Tree {
	return api.Tree{Tok: api.Token{Kind: kind, Text: text}}
}

func symbol(text string) api.Tree { return leaf(api.TSymbol, text) }

func list(kids ...api.Tree) api.Tree { return api.Tree{List: true, Kids: kids} }

// absolute gives t in n terms, one in another.
func absolute(n int, t api.Term) api.Term {
	for range n {
		t = of(api.OAbs, api.SInt, t)
	}
	return t
}

// within gives t in n Lists of abs, one in another.
func within(n int, t api.Tree) api.Tree {
	for range n {
		t = list(symbol("abs"), t)
	}
	return t
}

// read gives the one tree of a script.
func read(t *testing.T, s string) api.Tree {
	t.Helper()
	words, _, e := lex.Words(s)
	l, _, f := tree.Read(words)
	if e != api.OK || f != api.OK || len(l) != 1 {
		t.Fatalf("%s: %v, %v, %d trees", s, e, f, len(l))
	}
	return l[0]
}

func print(t api.Tree) string { return lex.Print(tree.Words(t)) }

// outline tells all of a term, as it stands.
func outline(t api.Term) string {
	var out strings.Builder
	write(&out, t)
	return out.String()
}

func write(out *strings.Builder, t api.Term) {
	out.WriteString(strconv.Itoa(t.Op) + ":" + strconv.Itoa(t.Sort) + strconv.Quote(t.Name))
	for _, limb := range t.N.Mag {
		out.WriteString(strconv.FormatUint(uint64(limb), 10) + "'")
	}
	if t.N.Neg {
		out.WriteString("-")
	}
	out.WriteString("[")
	for _, kid := range t.Kids {
		write(out, kid)
		out.WriteString(",")
	}
	out.WriteString("]")
}

// outlineTree tells all of a tree, as it stands.
func outlineTree(t api.Tree) string {
	var out strings.Builder
	writeTree(&out, t)
	return out.String()
}

func writeTree(out *strings.Builder, t api.Tree) {
	if t.List {
		out.WriteString("L")
	}
	if t.Tok != (api.Token{}) {
		out.WriteString(strconv.Itoa(t.Tok.Kind) + strconv.Quote(t.Tok.Text))
	}
	out.WriteString("[")
	for _, kid := range t.Kids {
		writeTree(out, kid)
		out.WriteString(",")
	}
	out.WriteString("]")
}

// brief cuts what a row of a test is told by.
func brief(s string) string { return s[:min(len(s), 300)] }

func pick[T any](r *rand.Rand, l ...T) T { return l[r.Intn(len(l))] }

func someSort(r *rand.Rand) int { return pick(r, api.SBool, api.SInt) }

// someLeaf gives a word of that sort; names are those that lets bind there.
func someLeaf(r *rand.Rand, sort int, names []string) string {
	if len(names) > 0 && r.Intn(3) > 0 {
		return pick(r, names...) // of any sort
	}
	if sort == api.SInt {
		return pick(r, "x", "y", "z", most, "0", "1", "42", "(- 7)", "1000000000000000000000")
	}
	return pick(r, "p", "q", "true", "false")
}

// someWrong gives a script, or a piece of one, that is no term.
func someWrong(r *rand.Rand) string {
	return pick(r,
		"()", ":key", "w", "Int", "let", "not", "and", "(x y)", "((f x))", "(5 x)", "(w (f p))", "(true)", "(Int x)", "f", "(f)", "(f x y)", "(f p)", "(f true)", "(twice x)", "twice",
		"(+)", "(- p)", "(not)", "(not p q)", "(* x y)", "(div x 0)", "(mod x (- 0))", "(div x y)", "(mod x (+ 2))", "(ite p x)", "(ite p x q)", "(= x)", "(= x p)", "(distinct)",
		"(none)", "none", "(four x x x x)", "(odd x y)", "(none w)", "(xor p q p)", "(< p q)", "(< x)", "(abs x y)", "(abs p)", "(=> p)",
		"(let)", "(let x)", "(let () x)", "(let (x) x)", "(let ((x)) x)", "(let ((x 1 2)) x)", "(let ((5 1)) x)", "(let (((x) 1)) x)", "(let ((:x 1)) x)", "(let ((x 1)) x x)", "(let ((x 1)))",
		"(let ((and 1)) x)", "(let ((!a 1)) x)", "(let ((a 1) (b 2) (a 3)) a)", "(let ((a w)) x)", "(let ((a 1)) (a))", "(let ((f 1)) (f x))", "(let ((a 1) (b a)) b)", "(let ((a p)) (+ a 1))",
		strings.Repeat("9", 361), "(- "+strings.Repeat("1", 361)+")",
	)
}

// someScript gives a script that tells a term of that sort, mostly, at most n
// Lists and lets in one another.
func someScript(r *rand.Rand, sort, n int, names []string) string {
	switch {
	case r.Intn(150) == 0:
		return someWrong(r)
	case n == 0 || r.Intn(6) == 0:
		return someLeaf(r, sort, names)
	case r.Intn(4) == 0:
		return someLet(r, sort, n, names)
	}
	shape := pick(r, "(+ I I I)", "(- I I)", "(- I)", "(* 3 I)", "(* I (- 5))", "(div I 7)", "(mod I (- 2))", "(abs I)", "(ite B I I)", "(f I)", "(h B I I)", "(x)", "(!0)")
	if sort == api.SBool {
		shape = pick(r, "(and B B B)", "(or B)", "(not B)", "(xor B B)", "(=> B B)", "(= I I)", "(= B B)", "(distinct I I I)", "(ite B B B)", "(< I I)", "(<= I I)", "(> I I)", "(>= I I)", "(g I B)", "(k B)", "(p)")
	}
	var out strings.Builder
	for _, b := range shape {
		switch b {
		case 'I':
			out.WriteString(someScript(r, api.SInt, n-1, names))
		case 'B':
			out.WriteString(someScript(r, api.SBool, n-1, names))
		default:
			out.WriteRune(b)
		}
	}
	return out.String()
}

func someLet(r *rand.Rand, sort, n int, names []string) string {
	fresh := slices.Clone([]string{"a", "b", "x", "p", "f"})
	r.Shuffle(len(fresh), func(i, j int) { fresh[i], fresh[j] = fresh[j], fresh[i] })
	fresh = fresh[:1+r.Intn(3)]
	var out strings.Builder
	for _, name := range fresh {
		out.WriteString("(" + name + " " + someScript(r, pick(r, sort, sort, someSort(r)), n-1, names) + ")")
	}
	return "(let (" + out.String() + ") " + someScript(r, sort, n-1, append(slices.Clone(names), fresh...)) + ")"
}

// someTerm gives a term of that sort of names that are declared and aren't
// Reserved, at most n deep.
func someTerm(r *rand.Rand, sort, n int) api.Term {
	if n == 0 || r.Intn(6) == 0 {
		return someTermLeaf(r, sort)
	}
	some := func(sorts ...int) []api.Term {
		var out []api.Term
		for _, sort := range sorts {
			out = append(out, someTerm(r, sort, n-1))
		}
		return out
	}
	const i, b = api.SInt, api.SBool
	op := pick(r, api.OApp, api.OIte, api.OAdd, api.OSub, api.OMul, api.ODiv, api.OMod, api.OAbs)
	if sort == b {
		op = pick(r, api.OApp, api.ONot, api.OAnd, api.OOr, api.OXor, api.OImplies, api.OEq, api.ODistinct, api.OIte, api.OLe, api.OLt, api.OGe, api.OGt)
	}
	switch op {
	case api.OApp:
		if sort == b {
			return apply("g", b, some(i, b)...)
		}
		return pick(r, apply("f", i, some(i)...), apply("h", i, some(b, i, i)...))
	case api.ONot, api.OAbs:
		return of(op, sort, some(sort)...)
	case api.OIte:
		return of(op, sort, some(b, sort, sort)...)
	case api.OMul, api.ODiv, api.OMod:
		return of(op, sort, append(some(i), pick(r, number(-3), number(5), negative(number(4))))...)
	case api.OLe, api.OLt, api.OGe, api.OGt:
		return of(op, sort, some(i, i)...)
	case api.OEq:
		kid := someSort(r)
		return of(op, sort, some(kid, kid)...)
	case api.ODistinct:
		return of(op, sort, some(slices.Repeat([]int{someSort(r)}, 1+r.Intn(3))...)...)
	case api.OXor, api.OImplies:
		return of(op, sort, some(b, b)...)
	}
	return of(op, sort, some(slices.Repeat([]int{sort}, 1+r.Intn(3))...)...)
}

func someTermLeaf(r *rand.Rand, sort int) api.Term {
	if sort == api.SBool {
		return pick(r, p(), apply("q", api.SBool), yes(), no())
	}
	return pick(r, x(), y(), apply(most, api.SInt), number(0), number(7), number(-1), number(1000000000), term.Num(whole.Mul(whole.Of(1<<62), whole.Of(-1<<62))))
}

// everything gives trees of all kinds, and what is none.
func everything(t *testing.T) []api.Tree {
	r := rand.New(rand.NewSource(1))
	out := []api.Tree{
		{}, list(), symbol("x"), symbol("a b"), {List: true, Tok: api.Token{Kind: api.TSymbol, Text: "x"}}, {Tok: api.Token{Kind: api.TSymbol, Text: "x"}, Kids: []api.Tree{symbol("x")}},
		within(59, symbol("x")), within(60, symbol("x")), within(61, symbol("x")), within(nested, symbol("x")),
		read(t, "Int"), read(t, "Bool"), read(t, "(+ x (let ((a x)) a) (let ((a (f x)) (b (f y))) (- a b a b)))"),
	}
	for range 150 {
		out = append(out, read(t, someScript(r, someSort(r), 4, nil)))
	}
	for range 60 {
		out = append(out, read(t, someWrong(r)))
	}
	return out
}
