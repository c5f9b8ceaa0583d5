package divs_test

import (
	"math/rand"
	"slices"
	"strconv"
	"strings"
	"testing"

	"mullion/api"
	"mullion/divs"
	"mullion/term"
	"mullion/whole"
)

const nested = 1 << 16 // as deep as anything that is given may be

// The values, structures and terms below are written out, without the program.

func truth(n int64) api.Value { return api.Value{Sort: api.SBool, N: whole.Of(n)} }

func number(n int64) api.Value { return api.Value{Sort: api.SInt, N: whole.Of(n)} }

// long is a number beyond all machine words.
func long(sign int64) api.Int {
	return whole.Mul(whole.Of(sign), whole.Mul(whole.Of(1<<62), whole.Of(1<<62)))
}

func far(sign int64) api.Value { return api.Value{Sort: api.SInt, N: long(sign)} }

func signature(name string, ret int, args ...int) api.Sig {
	return api.Sig{Name: name, Args: args, Ret: ret}
}

func row(v api.Value, args ...api.Value) api.Row { return api.Row{Args: args, V: v} }

func function(s api.Sig, otherwise api.Value, rows ...api.Row) api.Fun {
	return api.Fun{Sig: s, Rows: rows, Else: otherwise}
}

func constant(name string, v api.Value) api.Fun { return function(signature(name, v.Sort), v) }

func num(n int64) api.Term { return api.Term{Op: api.ONum, N: whole.Of(n), Sort: api.SInt} }

func yes() api.Term { return api.Term{Op: api.OTrue, Sort: api.SBool} }

func no() api.Term { return api.Term{Op: api.OFalse, Sort: api.SBool} }

func apply(name string, sort int, kids ...api.Term) api.Term {
	return api.Term{Op: api.OApp, Name: name, Sort: sort, Kids: kids}
}

func of(op, sort int, kids ...api.Term) api.Term { return api.Term{Op: op, Sort: sort, Kids: kids} }

func x() api.Term { return apply("x", api.SInt) }

func y() api.Term { return apply("y", api.SInt) }

func p() api.Term { return apply("p", api.SBool) }

func f(t api.Term) api.Term { return apply("f", api.SInt, t) }

func abs(t api.Term) api.Term { return of(api.OAbs, api.SInt, t) }

// ite gives a choice of either sort.
func ite(c, a, b api.Term) api.Term { return of(api.OIte, a.Sort, c, a, b) }

func add(kids ...api.Term) api.Term { return of(api.OAdd, api.SInt, kids...) }

func sub(kids ...api.Term) api.Term { return of(api.OSub, api.SInt, kids...) }

func not(t api.Term) api.Term { return of(api.ONot, api.SBool, t) }

func and(kids ...api.Term) api.Term { return of(api.OAnd, api.SBool, kids...) }

func eq(a, b api.Term) api.Term { return of(api.OEq, api.SBool, a, b) }

func lt(a, b api.Term) api.Term { return of(api.OLt, api.SBool, a, b) }

func le(a, b api.Term) api.Term { return of(api.OLe, api.SBool, a, b) }

func mul(a, b api.Term) api.Term { return of(api.OMul, api.SInt, a, b) }

func div(a, b api.Term) api.Term { return of(api.ODiv, api.SInt, a, b) }

func mod(a, b api.Term) api.Term { return of(api.OMod, api.SInt, a, b) }

// fresh gives the constant `!` and n's digits.
func fresh(n int) api.Term { return apply("!"+strconv.Itoa(n), api.SInt) }

// within gives t in n divisions, one in another.
func within(n int, t api.Term) api.Term {
	for range n {
		t = div(t, num(2))
	}
	return t
}

// wide gives a pure term of Sort SInt, of n nodes, 1 at least.
func wide(n int) api.Term {
	if n == 1 {
		return x()
	}
	return add(slices.Repeat([]api.Term{x()}, n-1)...)
}

// outline tells all of what is given, as it stands.

func outlineInt(n api.Int) string {
	var out strings.Builder
	if n.Neg {
		out.WriteString("-")
	}
	for _, limb := range n.Mag {
		out.WriteString(strconv.FormatUint(uint64(limb), 10) + "'")
	}
	return out.String()
}

func outlineValues(l ...api.Value) string {
	var out strings.Builder
	for _, v := range l {
		out.WriteString(strconv.Itoa(v.Sort) + ":" + outlineInt(v.N) + " ")
	}
	return out.String()
}

func outlineSig(s api.Sig) string {
	out := strconv.Quote(s.Name)
	for _, sort := range s.Args {
		out += " " + strconv.Itoa(sort)
	}
	return out + " to " + strconv.Itoa(s.Ret)
}

func outlineFuns(m []api.Fun) string {
	var out strings.Builder
	for _, f := range m {
		out.WriteString(outlineSig(f.Sig) + ": ")
		for _, r := range f.Rows {
			out.WriteString(outlineValues(r.Args...) + "to " + outlineValues(r.V) + "| ")
		}
		out.WriteString("else " + outlineValues(f.Else) + "; ")
	}
	return out.String()
}

func outline(terms ...api.Term) string {
	var out strings.Builder
	for _, t := range terms {
		write(&out, t)
		out.WriteString("; ")
	}
	return out.String()
}

func write(out *strings.Builder, t api.Term) {
	out.WriteString(strconv.Itoa(t.Op) + ":" + strconv.Itoa(t.Sort) + strconv.Quote(t.Name) + outlineInt(t.N) + "[")
	for _, kid := range t.Kids {
		write(out, kid)
		out.WriteString(",")
	}
	out.WriteString("]")
}

// brief cuts what a row of a test is told by.
func brief(s string) string { return s[:min(len(s), 500)] }

func pick[T any](r *rand.Rand, l ...T) T { return l[r.Intn(len(l))] }

func someSort(r *rand.Rand) int { return pick(r, api.SBool, api.SInt) }

// someNumber gives mostly numbers that come often: rows are to be met.
func someNumber(r *rand.Rand) api.Int {
	if r.Intn(12) > 0 {
		return whole.Of(int64(r.Intn(7) - 3))
	}
	return pick(r, whole.Of(999999999), whole.Of(-1000000000), whole.Of(-1<<63), whole.Of(1<<63-1), long(1), long(-1))
}

func someValue(r *rand.Rand, sort int) api.Value {
	if sort == api.SBool {
		return truth(int64(r.Intn(2)))
	}
	return api.Value{Sort: sort, N: someNumber(r)}
}

// names that someTerm takes, with the Sigs that it takes them for. Some are such
// as Fresh gives.
func names() []api.Sig {
	const i, b = api.SInt, api.SBool
	return []api.Sig{
		signature("!0", i), signature("!0", i, i), signature("!10", b), signature("!2", i), signature("!2", b), signature("!3", b, i), signature("-", i, i), signature("P", b), signature("f", i, i), signature("f", b, i), signature("ff", i, i, b), signature("g", b, i, b), signature("h", i, b, i, i),
		signature("p", b), signature("p", i), signature("q", b), signature("x", i), signature("x", b), signature("x1", i), signature("y", i), signature("~", b, b),
	}
}

// someFunction gives a function of that Sig; of one without Args at most a row.
func someFunction(r *rand.Rand, s api.Sig) api.Fun {
	out := function(s, someValue(r, s.Ret))
	for range r.Intn(2 + 5*min(len(s.Args), 1)) {
		var args []api.Value
		for _, sort := range s.Args {
			args = append(args, someValue(r, sort))
		}
		out.Rows = append(out.Rows, row(someValue(r, s.Ret), args...))
	}
	return out
}

// someStructure leaves some of the names out, and has each of the others for one
// of its Sigs.
func someStructure(r *rand.Rand) []api.Fun {
	var out []api.Fun
	for _, s := range names() {
		if r.Intn(3) == 0 || len(out) > 0 && out[len(out)-1].Sig.Name == s.Name {
			continue
		}
		out = append(out, someFunction(r, s))
	}
	return out
}

func someLeaf(r *rand.Rand, sort int) api.Term {
	switch {
	case r.Intn(3) > 0:
		return someApp(r, sort, 0, nil)
	case sort == api.SInt:
		return api.Term{Op: api.ONum, N: someNumber(r), Sort: sort}
	}
	return pick(r, yes(), no())
}

// someApp gives a name of that sort, of least kids at least.
func someApp(r *rand.Rand, sort, least int, some func(int) api.Term) api.Term {
	var sigs []api.Sig
	for _, s := range names() {
		if s.Ret == sort && len(s.Args) >= least && (some != nil || len(s.Args) == 0) {
			sigs = append(sigs, s)
		}
	}
	s := pick(r, sigs...)
	var kids []api.Term
	for _, arg := range s.Args {
		kids = append(kids, some(arg))
	}
	return apply(s.Name, s.Ret, kids...)
}

// someDivisor gives a number, or a number's negative, that isn't 0.
func someDivisor(r *rand.Rand) api.Term {
	n := pick(r, num(2), num(-3), num(1), num(-1), num(1000000000), api.Term{Op: api.ONum, N: long(-1), Sort: api.SInt})
	if r.Intn(2) == 0 {
		return sub(n)
	}
	return n
}

// someTerm gives a term of that sort, at most n deep: of numbers often a division.
func someTerm(r *rand.Rand, sort, n int) api.Term {
	if n == 0 || r.Intn(8) == 0 {
		return someLeaf(r, sort)
	}
	some := func(sort int) api.Term { return someTerm(r, sort, n-1) }
	if r.Intn(5) == 0 {
		return someApp(r, sort, 1, some)
	}
	op := pick(r, api.ODiv, api.ODiv, api.OMod, api.OMod, api.OIte, api.OAbs, api.OAdd, api.OSub, api.OMul)
	if sort == api.SBool {
		op = pick(r, api.ONot, api.OAnd, api.OOr, api.OXor, api.OImplies, api.OEq, api.ODistinct, api.OIte, api.OLe, api.OLt, api.OGe, api.OGt)
	}
	return of(op, sort, someKids(r, op, sort, some)...)
}

// someKids gives such as an operator of that sort may have.
func someKids(r *rand.Rand, op, sort int, some func(int) api.Term) []api.Term {
	switch op {
	case api.OIte:
		return []api.Term{some(api.SBool), some(sort), some(sort)}
	case api.OMul:
		return pick(r, []api.Term{some(sort), someDivisor(r)}, []api.Term{num(0), some(sort)}, []api.Term{someDivisor(r), some(sort)})
	case api.ODiv, api.OMod:
		return []api.Term{some(sort), someDivisor(r)}
	case api.ONot, api.OAbs:
		return []api.Term{some(sort)}
	case api.OEq, api.ODistinct:
		sort = someSort(r)
	case api.OLe, api.OLt, api.OGe, api.OGt:
		sort = api.SInt
	}
	out := []api.Term{some(sort), some(sort)}
	if op == api.OAnd || op == api.OOr || op == api.OAdd || op == api.OSub || op == api.ODistinct {
		out = append(out, some(sort))[:1+r.Intn(3)]
	}
	return out
}

// checkDo holds all that Do answers against what it is to.
func checkDo(t *testing.T, in api.Term, from int, want api.Term, held []api.Term, next int) {
	t.Helper()
	out, got, n := divs.Do(in, from)
	if outline(out) != outline(want) || outline(got...) != outline(held...) || n != next {
		t.Errorf("P14.1: Do(%s, %d): %s, %s, %d, not %s, %s, %d", brief(outline(in)), from, brief(outline(out)), brief(outline(got...)), n, brief(outline(want)), brief(outline(held...)), next)
	}
}

func checkOver(t *testing.T, in api.Term, m []api.Fun, from int, want []api.Fun) {
	t.Helper()
	if got := divs.Over(in, m, from); outlineFuns(got) != outlineFuns(want) {
		t.Errorf("P14.2: Over(%s, %s, %d): %s, not %s", brief(outline(in)), brief(outlineFuns(m)), from, brief(outlineFuns(got)), brief(outlineFuns(want)))
	}
}

// checkTerms makes sure that a test takes terms.
func checkTerms(t *testing.T, l ...api.Term) {
	t.Helper()
	for _, one := range l {
		if !term.Is(one) {
			t.Fatalf("%s is no term", brief(outline(one)))
		}
	}
}
