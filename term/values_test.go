package term_test

import (
	"math/rand"
	"slices"
	"strconv"
	"strings"
	"testing"

	"mullion/api"
	"mullion/term"
	"mullion/whole"
)

const (
	most   = "abcdefghij0123456789" // as many bytes as a name may have
	nested = 1 << 16                // as deep as anything that is given may be
)

// What the document names, in its order.
var (
	leaves    = []int{api.ONum, api.OTrue, api.OFalse, api.OApp}
	operators = []int{
		api.ONot, api.OAnd, api.OOr, api.OXor, api.OImplies, api.OEq, api.ODistinct, api.OIte, api.OAdd,
		api.OSub, api.OMul, api.ODiv, api.OMod, api.OAbs, api.OLe, api.OLt, api.OGe, api.OGt,
	}
)

// The terms below are written out, without the program.

func number(n int64) api.Term { return api.Term{Op: api.ONum, N: whole.Of(n), Sort: api.SInt} }

func constant(name string, sort int) api.Term { return apply(name, sort) }

func apply(name string, sort int, kids ...api.Term) api.Term {
	return api.Term{Op: api.OApp, Name: name, Sort: sort, Kids: kids}
}

func of(op, sort int, kids ...api.Term) api.Term { return api.Term{Op: op, Sort: sort, Kids: kids} }

func negative(t api.Term) api.Term { return of(api.OSub, api.SInt, t) }

func yes() api.Term { return api.Term{Op: api.OTrue, Sort: api.SBool} }

func no() api.Term { return api.Term{Op: api.OFalse, Sort: api.SBool} }

func x() api.Term { return constant("x", api.SInt) }

func p() api.Term { return constant("p", api.SBool) }

// wide gives n nodes: a sum of n - 1 kids.
func wide(n int) api.Term {
	return of(api.OAdd, api.SInt, slices.Repeat([]api.Term{x()}, n-1)...)
}

// wideBool gives n nodes likewise, of Sort SBool.
func wideBool(n int) api.Term {
	return of(api.OAnd, api.SBool, slices.Repeat([]api.Term{p()}, n-1)...)
}

// within gives t in n terms, one in another.
func within(n int, t api.Term) api.Term {
	for range n {
		t = of(api.OAbs, api.SInt, t)
	}
	return t
}

// doubled gives t in n sums of two alike, which lie on the same memory.
func doubled(n int, t api.Term) api.Term {
	for range n {
		t = of(api.OAdd, api.SInt, t, t)
	}
	return t
}

func numbers(l []uint32) string {
	var out strings.Builder
	for _, limb := range l {
		out.WriteString(strconv.FormatUint(uint64(limb), 10) + "'")
	}
	return out.String()
}

// outline tells all of a term, as it stands.
func outline(t api.Term) string {
	var out strings.Builder
	write(&out, t)
	return out.String()
}

func write(out *strings.Builder, t api.Term) {
	out.WriteString(strconv.Itoa(t.Op) + ":" + strconv.Itoa(t.Sort) + strconv.Quote(t.Name) + numbers(t.N.Mag))
	if t.N.Neg {
		out.WriteString("-")
	}
	out.WriteString("[")
	for _, kid := range t.Kids {
		write(out, kid)
		out.WriteString(",")
	}
	out.WriteString("]")
}

func outlines(l []api.Term) string { return outline(api.Term{Kids: l}) }

func outlineSigs(l []api.Sig) string {
	var out strings.Builder
	for _, s := range l {
		out.WriteString(strconv.Quote(s.Name))
		for _, sort := range s.Args {
			out.WriteString(" " + strconv.Itoa(sort))
		}
		out.WriteString(" to " + strconv.Itoa(s.Ret) + "; ")
	}
	return out.String()
}

// brief is an outline that a row of a test can be told by.
func brief(t api.Term) string {
	out := outline(t)
	return out[:min(len(out), 200)]
}

// size tells how many nodes t has, however many.
func size(t api.Term) int {
	n := 1
	for _, kid := range t.Kids {
		n += size(kid)
	}
	return n
}

func sortsOf(l []api.Term) []int {
	var out []int
	for _, t := range l {
		out = append(out, t.Sort)
	}
	return out
}

// nodes gives t and all that is in it, a term ahead of its kids.
func nodes(t api.Term) []api.Term {
	out := []api.Term{t}
	for _, kid := range t.Kids {
		out = append(out, nodes(kid)...)
	}
	return out
}

func pick[T any](r *rand.Rand, l ...T) T { return l[r.Intn(len(l))] }

// someNumber gives integers of no, one and several limbs.
func someNumber(r *rand.Rand) api.Int {
	return pick(r, api.Int{}, whole.Of(1), whole.Of(-3), whole.Of(999999999), whole.Of(-1000000000), whole.Mul(whole.Of(1<<62), whole.Of(-1<<62)))
}

func someLeaf(r *rand.Rand, sort int) api.Term {
	switch {
	case r.Intn(2) == 0:
		return constant(pick(r, "x", "y", most, "!0", "and"), sort)
	case sort == api.SInt:
		return term.Num(someNumber(r))
	}
	return term.Bool(r.Intn(2) == 0)
}

func someSort(r *rand.Rand) int { return pick(r, api.SBool, api.SInt) }

// someDivisor gives a number, or a number's negative, that isn't 0.
func someDivisor(r *rand.Rand) api.Term {
	return pick(r, number(2), number(-3), negative(number(7)), negative(number(-1)), number(1000000000))
}

// someTerm gives a term that these calls make, of that sort, at most n deep.
func someTerm(r *rand.Rand, sort, n int) api.Term {
	if n == 0 || r.Intn(5) == 0 {
		return someLeaf(r, sort)
	}
	some := func(sort int) api.Term { return someTerm(r, sort, n-1) }
	if r.Intn(7) == 0 {
		l := []api.Term{some(someSort(r)), some(someSort(r)), some(someSort(r))}[r.Intn(3):]
		out, _ := term.App(api.Sig{Name: pick(r, "f", "g"), Args: sortsOf(l), Ret: sort}, l)
		return out
	}
	op := pick(r, api.OIte, api.OAdd, api.OSub, api.OMul, api.ODiv, api.OMod, api.OAbs)
	if sort == api.SBool {
		op = pick(r, api.ONot, api.OAnd, api.OOr, api.OXor, api.OImplies, api.OEq, api.ODistinct, api.OIte, api.OLe, api.OLt, api.OGe, api.OGt)
	}
	out, _ := term.Make(op, someKids(r, op, sort, some))
	return out
}

// someKids gives such as an operator of that sort may have.
func someKids(r *rand.Rand, op, sort int, some func(int) api.Term) []api.Term {
	switch op {
	case api.OIte:
		return []api.Term{some(api.SBool), some(sort), some(sort)}
	case api.OMul:
		return pick(r, []api.Term{some(sort), someDivisor(r)}, []api.Term{number(0), some(sort)})
	case api.ODiv, api.OMod:
		return []api.Term{some(sort), someDivisor(r)}
	case api.OEq, api.ODistinct:
		sort = someSort(r)
	case api.OLe, api.OLt, api.OGe, api.OGt:
		sort = api.SInt
	}
	l := []api.Term{some(sort), some(sort), some(sort)}
	n := 1 + r.Intn(3)
	for !argsOf(op, n) {
		n = 1 + r.Intn(3)
	}
	return l[:n]
}

// tampered gives t with one thing in it that is otherwise.
func tampered(r *rand.Rand, t api.Term) api.Term {
	if len(t.Kids) > 0 && r.Intn(3) > 0 {
		at := r.Intn(len(t.Kids))
		t.Kids = slices.Clone(t.Kids)
		t.Kids[at] = tampered(r, t.Kids[at])
		return t
	}
	switch r.Intn(5) {
	case 0:
		t.Op = r.Intn(25) - 1
	case 1:
		t.Sort = r.Intn(4)
	case 2:
		t.Name = pick(r, "", "x", "f", "5", "a b", most+"0")
	case 3:
		t.N = pick(r, api.Int{}, whole.Of(7), api.Int{Neg: true}, api.Int{Mag: []uint32{0}}, api.Int{Mag: []uint32{api.Base}}, api.Int{Neg: true, Mag: []uint32{3}})
	case 4:
		t.Kids = pick(r, nil, append(slices.Clone(t.Kids), x()), append(slices.Clone(t.Kids), p()), []api.Term{number(0)}, []api.Term{x(), p(), number(4)}, t.Kids[:len(t.Kids)/2])
	}
	return t
}

// everything gives terms of all kinds, and what is none.
func everything() []api.Term {
	r := rand.New(rand.NewSource(1))
	out := []api.Term{
		{}, {Op: 99}, {Op: -1, Kids: []api.Term{x()}}, yes(), no(), number(0), number(-5), x(), p(),
		wide(399), wide(400), wide(401), wide(2000), wideBool(400), within(399, x()), within(400, x()),
	}
	for range 150 {
		t := someTerm(r, someSort(r), 4)
		out = append(out, t, tampered(r, t))
	}
	return out
}

// must gives what Make makes.
func must(t *testing.T, op int, l ...api.Term) api.Term {
	t.Helper()
	out, e := term.Make(op, l)
	if e != api.OK {
		t.Fatalf("P10.2: Make(%d, %s): %v", op, outlines(l), e)
	}
	return out
}
