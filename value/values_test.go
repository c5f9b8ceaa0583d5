package value_test

import (
	"math/big"
	"math/rand"
	"slices"
	"strconv"
	"strings"
	"testing"

	"mullion/api"
	"mullion/term"
	"mullion/value"
	"mullion/whole"
)

const (
	most   = "abcdefghij0123456789" // as many bytes as a name may have
	nested = 1 << 16                // as deep as anything that is given may be

	i = api.SInt
	b = api.SBool
)

// The values, structures and terms below are written out, without the program.

func truth(n int64) api.Value { return api.Value{Sort: api.SBool, N: whole.Of(n)} }

func number(n int64) api.Value { return api.Value{Sort: api.SInt, N: whole.Of(n)} }

// long is a number beyond all machine words.
func long(sign int64) api.Int {
	return whole.Mul(whole.Of(sign), whole.Mul(whole.Of(1<<62), whole.Of(1<<62)))
}

func signature(name string, ret int, args ...int) api.Sig {
	return api.Sig{Name: name, Args: args, Ret: ret}
}

func row(v api.Value, args ...api.Value) api.Row { return api.Row{Args: args, V: v} }

func function(s api.Sig, otherwise api.Value, rows ...api.Row) api.Fun {
	return api.Fun{Sig: s, Rows: rows, Else: otherwise}
}

func constant(name string, v api.Value) api.Fun { return function(signature(name, v.Sort), v) }

// some gives a structure of functions of all kinds.
func some() []api.Fun {
	return []api.Fun{
		constant("!0", number(-8)),
		function(signature("f", i, i), number(-1), row(number(10), number(1)), row(number(20), number(2)), row(number(99), number(1)), row(api.Value{Sort: i, N: long(1)}, api.Value{Sort: i, N: long(-1)})),
		function(signature("g", b, i, b), truth(0), row(truth(1), number(7), truth(1)), row(truth(1), number(-3), truth(0))),
		function(signature("h", i, b, b, i), number(5), row(number(6), truth(1), truth(0), number(0)), row(number(7), truth(0), truth(1), number(0))),
		constant("p", truth(1)),
		constant("q", truth(0)),
		function(signature("r", b, b), truth(1)),
		constant("x", number(7)),
		function(signature("y", i), number(5), row(number(-3)), row(number(4))),
		constant("z", api.Value{Sort: i, N: long(-1)}),
	}
}

func num(n int64) api.Term { return api.Term{Op: api.ONum, N: whole.Of(n), Sort: api.SInt} }

func yes() api.Term { return api.Term{Op: api.OTrue, Sort: api.SBool} }

func no() api.Term { return api.Term{Op: api.OFalse, Sort: api.SBool} }

func apply(name string, sort int, kids ...api.Term) api.Term {
	return api.Term{Op: api.OApp, Name: name, Sort: sort, Kids: kids}
}

func of(op, sort int, kids ...api.Term) api.Term { return api.Term{Op: op, Sort: sort, Kids: kids} }

func x() api.Term { return apply("x", api.SInt) }

func y() api.Term { return apply("y", api.SInt) }

func z() api.Term { return apply("z", api.SInt) }

func p() api.Term { return apply("p", api.SBool) }

func q() api.Term { return apply("q", api.SBool) }

// within gives t in n terms, one in another.
func within(n int, t api.Term) api.Term {
	for range n {
		t = of(api.OAbs, api.SInt, t)
	}
	return t
}

// doubled gives t in n sums of two alike, which lie on the same memory.
func doubled(n int, t api.Term) api.Term {
	for range n {
		t = of(api.OAdd, api.SInt, t, t)
	}
	return t
}

// outline tells all of what is given, as it stands.

func outlineInt(n api.Int) string {
	var out strings.Builder
	if n.Neg {
		out.WriteString("-")
	}
	for _, limb := range n.Mag {
		out.WriteString(strconv.FormatUint(uint64(limb), 10) + "'")
	}
	return out.String()
}

func outlineValues(l ...api.Value) string {
	var out strings.Builder
	for _, v := range l {
		out.WriteString(strconv.Itoa(v.Sort) + ":" + outlineInt(v.N) + " ")
	}
	return out.String()
}

func outlineSig(s api.Sig) string {
	out := strconv.Quote(s.Name)
	for _, sort := range s.Args {
		out += " " + strconv.Itoa(sort)
	}
	return out + " to " + strconv.Itoa(s.Ret)
}

func outlineRows(l []api.Row) string {
	var out strings.Builder
	for _, r := range l {
		out.WriteString(outlineValues(r.Args...) + "to " + outlineValues(r.V) + "| ")
	}
	return out.String()
}

func outline(m []api.Fun) string {
	var out strings.Builder
	for _, f := range m {
		out.WriteString(outlineSig(f.Sig) + ": " + outlineRows(f.Rows) + "else " + outlineValues(f.Else) + "; ")
	}
	return out.String()
}

func outlineTerm(t api.Term) string {
	var out strings.Builder
	writeTerm(&out, t)
	return out.String()
}

func writeTerm(out *strings.Builder, t api.Term) {
	out.WriteString(strconv.Itoa(t.Op) + ":" + strconv.Itoa(t.Sort) + strconv.Quote(t.Name) + outlineInt(t.N) + "[")
	for _, kid := range t.Kids {
		writeTerm(out, kid)
		out.WriteString(",")
	}
	out.WriteString("]")
}

// briefTerm is told also of terms of which no outline would come to an end.
func briefTerm(t api.Term) string {
	kids := t.Kids
	t.Kids = nil
	out := strings.TrimSuffix(outlineTerm(t), "]")
	for _, kid := range kids {
		if len(out) > 300 {
			return brief(out)
		}
		out += briefTerm(kid) + ","
	}
	return out + "]"
}

// brief cuts what a row of a test is told by.
func brief(s string) string { return s[:min(len(s), 300)] }

func pick[T any](r *rand.Rand, l ...T) T { return l[r.Intn(len(l))] }

func someSort(r *rand.Rand) int { return pick(r, api.SBool, api.SInt) }

// someNumber gives mostly numbers that come often: rows are to be met.
func someNumber(r *rand.Rand) api.Int {
	if r.Intn(12) > 0 {
		return whole.Of(int64(r.Intn(7) - 3))
	}
	return pick(r, whole.Of(999999999), whole.Of(-1000000000), whole.Of(-1<<63), whole.Of(1<<63-1), long(1), long(-1))
}

func someValue(r *rand.Rand, sort int) api.Value {
	if sort == api.SBool {
		return truth(int64(r.Intn(2)))
	}
	return api.Value{Sort: sort, N: someNumber(r)}
}

func someFunction(r *rand.Rand, s api.Sig) api.Fun {
	f := function(s, someValue(r, s.Ret))
	for range r.Intn(6) {
		var args []api.Value
		for _, sort := range s.Args {
			args = append(args, someValue(r, sort))
		}
		f.Rows = append(f.Rows, row(someValue(r, s.Ret), args...))
	}
	return f
}

// names that someTerm takes, with the Sigs that it takes them for.
func names() []api.Sig {
	return []api.Sig{
		signature("!0", i), signature("-", i, i), signature("P", b), signature("and", b), signature("f", i, i), signature("f", i, i, i), signature("f", b, i), signature("ff", i, i, b), signature("g", b, i, b), signature("h", i, b, i, i),
		signature("p", b), signature("p", i), signature("q", b), signature("x", i), signature("x", b), signature("x1", i), signature("y", i), signature("~", b, b),
	}
}

// someStructure leaves some of the names out, and has each of the others for one
// of its Sigs.
func someStructure(r *rand.Rand) []api.Fun {
	var out []api.Fun
	for _, s := range names() {
		if r.Intn(4) == 0 || len(out) > 0 && out[len(out)-1].Sig.Name == s.Name {
			continue
		}
		out = append(out, someFunction(r, s))
	}
	return out
}

func someLeaf(r *rand.Rand, sort int) api.Term {
	switch {
	case r.Intn(3) > 0:
		return someApp(r, sort, 0, nil)
	case sort == api.SInt:
		return api.Term{Op: api.ONum, N: someNumber(r), Sort: sort}
	}
	return pick(r, yes(), no())
}

// someApp gives a name of that sort, of least kids at least.
func someApp(r *rand.Rand, sort, least int, some func(int) api.Term) api.Term {
	var sigs []api.Sig
	for _, s := range names() {
		if s.Ret == sort && len(s.Args) >= least && (some != nil || len(s.Args) == 0) {
			sigs = append(sigs, s)
		}
	}
	s := pick(r, sigs...)
	var kids []api.Term
	for _, arg := range s.Args {
		kids = append(kids, some(arg))
	}
	return apply(s.Name, s.Ret, kids...)
}

// someDivisor gives a number, or a number's negative, that isn't 0.
func someDivisor(r *rand.Rand) api.Term {
	n := pick(r, num(2), num(-3), num(1), num(-1), num(1000000000), api.Term{Op: api.ONum, N: long(-1), Sort: api.SInt})
	if r.Intn(2) == 0 {
		return of(api.OSub, api.SInt, n)
	}
	return n
}

// someTerm gives a term of that sort, at most n deep.
func someTerm(r *rand.Rand, sort, n int) api.Term {
	if n == 0 || r.Intn(8) == 0 {
		return someLeaf(r, sort)
	}
	some := func(sort int) api.Term { return someTerm(r, sort, n-1) }
	if r.Intn(4) == 0 {
		return someApp(r, sort, 1, some)
	}
	op := pick(r, api.OIte, api.OAdd, api.OSub, api.OMul, api.ODiv, api.OMod, api.OAbs)
	if sort == api.SBool {
		op = pick(r, api.ONot, api.OAnd, api.OOr, api.OXor, api.OImplies, api.OEq, api.ODistinct, api.OIte, api.OLe, api.OLt, api.OGe, api.OGt)
	}
	return of(op, sort, someKids(r, op, sort, some)...)
}

// someKids gives such as an operator of that sort may have.
func someKids(r *rand.Rand, op, sort int, some func(int) api.Term) []api.Term {
	switch op {
	case api.OIte:
		return []api.Term{some(api.SBool), some(sort), some(sort)}
	case api.OMul:
		return pick(r, []api.Term{some(sort), someDivisor(r)}, []api.Term{num(0), some(sort)}, []api.Term{someDivisor(r), some(sort)})
	case api.ODiv, api.OMod:
		return []api.Term{some(sort), someDivisor(r)}
	case api.ONot, api.OAbs:
		return []api.Term{some(sort)}
	case api.OEq, api.ODistinct:
		sort = someSort(r)
	case api.OLe, api.OLt, api.OGe, api.OGt:
		sort = api.SInt
	}
	out := []api.Term{some(sort), some(sort)}
	if op == api.OAnd || op == api.OOr || op == api.OAdd || op == api.OSub || op == api.ODistinct {
		out = append(out, some(sort))[:1+r.Intn(3)]
	}
	return out
}

// big10 tells what an integer is worth.
func big10(n api.Int) *big.Int {
	out := new(big.Int)
	for _, limb := range slices.Backward(n.Mag) {
		out.Mul(out, big.NewInt(api.Base)).Add(out, big.NewInt(int64(limb)))
	}
	if n.Neg {
		out.Neg(out)
	}
	return out
}

// integer gives n as an api.Int.
func integer(n *big.Int) api.Int {
	out := api.Int{Neg: n.Sign() < 0}
	for left := new(big.Int).Abs(n); left.Sign() > 0; {
		limb := new(big.Int)
		left.DivMod(left, big.NewInt(api.Base), limb)
		out.Mag = append(out.Mag, uint32(limb.Int64()))
	}
	return out
}

// checkValue holds a value against the one that it is to be, as it stands.
func checkValue(t *testing.T, promise, of string, got, want api.Value) {
	t.Helper()
	if outlineValues(got) != outlineValues(want) {
		t.Errorf("%s: %s: %s, not %s", promise, brief(of), brief(outlineValues(got)), brief(outlineValues(want)))
	}
}

// checkEval holds what a term is worth in m against what it is to be.
func checkEval(t *testing.T, in api.Term, m []api.Fun, want api.Value) {
	t.Helper()
	if got := value.Eval(in, m); outlineValues(got) != outlineValues(want) {
		t.Errorf("P12.2: %s in %s: %s, not %s", briefTerm(in), brief(outline(m)), brief(outlineValues(got)), brief(outlineValues(want)))
	}
	if got, is := value.True([]api.Term{in}, m), want.Sort == api.SBool && len(want.N.Mag) > 0; got != is {
		t.Errorf("P12.2: %s in %s: true: %t", briefTerm(in), brief(outline(m)), got)
	}
}

// checkTerms makes sure that a test takes terms.
func checkTerms(t *testing.T, l ...api.Term) {
	t.Helper()
	for _, one := range l {
		if !term.Is(one) {
			t.Fatalf("%s is no term", briefTerm(one))
		}
	}
}
