package value_test

import (
	"fmt"
	"math/rand"
	"slices"
	"sync"
	"testing"
	"unsafe"

	"mullion/api"
	"mullion/value"
)

// ask is what the calls are asked of.
type ask struct {
	t    api.Term
	m    []api.Fun
	s    api.Sig
	l    []api.Value
	name string
	v    api.Value
}

// asks gives some of all kinds.
func asks() []ask {
	r := rand.New(rand.NewSource(6))
	var out []ask
	for range 200 {
		one := ask{t: someTerm(r, someSort(r), 4), m: someStructure(r), s: pick(r, names()...), name: pick(r, "x", "f", "new", "~~"), v: someValue(r, someSort(r))}
		if r.Intn(5) == 0 {
			one.m = tampered(r, one.m)
		}
		for _, sort := range one.s.Args {
			one.l = append(one.l, someValue(r, sort))
		}
		out = append(out, one)
	}
	bare := append(out[:len(out):len(out)],
		ask{}, ask{t: api.Term{Op: 99, Kids: []api.Term{x()}}, m: some(), s: signature("f", api.SInt, api.SInt), l: []api.Value{number(1)}, name: "", v: api.Value{Sort: 9}},
		ask{t: z(), m: some(), s: signature("z", api.SInt), name: "f", v: api.Value{Sort: api.SInt, N: long(1)}}, ask{t: of(api.OIte, api.SInt, p(), z(), z()), m: some(), s: signature("f", api.SInt, api.SInt), l: []api.Value{{Sort: api.SInt, N: long(-1)}}, name: "a"},
		ask{t: apply("f", api.SInt, z()), m: some(), s: signature("y", api.SInt), name: "z", v: api.Value{Sort: api.SInt, N: long(-1)}}, ask{t: of(api.OAdd, api.SInt, z()), m: some(), name: "x"}, ask{t: api.Term{Op: api.ONum, Sort: api.SInt, N: long(1)}, m: nil, name: "x"},
	)
	return bare
}

// answers tells all that the calls answer.
func answers(a ask) string {
	of, worth := value.Of(a.m, a.s, a.l), value.Eval(a.t, a.m)
	return fmt.Sprint(value.Is(a.m), outlineValues(of, worth), value.True([]api.Term{a.t}, a.m), value.Same(of, worth), outline(value.Put(a.m, a.name, a.v)))
}

// roomy gives l in memory of its own, with room behind it that is written on.
func roomy[T any](l []T, room T) []T {
	out := append(make([]T, 0, 2*len(l)+1), l...)
	for i := range out[len(l):cap(out)] {
		out[len(l):cap(out)][i] = room
	}
	return out
}

func copyOfValue(v api.Value) api.Value {
	v.N.Mag = roomy(v.N.Mag, 77)
	return v
}

func copyOfValues(l []api.Value) []api.Value {
	out := roomy(l, number(77))
	for i, v := range l {
		out[i] = copyOfValue(v)
	}
	return out
}

func copyOf(m []api.Fun) []api.Fun {
	out := roomy(m, constant("room", number(77)))
	for i, f := range m {
		f.Sig.Args = roomy(f.Sig.Args, 77)
		f.Rows = roomy(f.Rows, row(number(77), number(77)))
		for j, one := range f.Rows {
			f.Rows[j] = api.Row{Args: copyOfValues(one.Args), V: copyOfValue(one.V)}
		}
		f.Else = copyOfValue(f.Else)
		out[i] = f
	}
	return out
}

func copyOfTerm(t api.Term) api.Term {
	t.N.Mag = roomy(t.N.Mag, 77)
	kids := roomy(t.Kids, apply("room", api.SInt))
	for i, kid := range t.Kids {
		kids[i] = copyOfTerm(kid)
	}
	t.Kids = kids
	return t
}

func copyOfAsk(a ask) ask {
	a.t, a.m, a.s.Args, a.l, a.v = copyOfTerm(a.t), copyOf(a.m), roomy(a.s.Args, 77), copyOfValues(a.l), copyOfValue(a.v)
	return a
}

// outlineAll tells all that is asked of, the room behind lists included.
func outlineAll(a ask) string {
	out := outlineTerm(a.t) + outlineTerm(api.Term{Kids: a.t.Kids[:cap(a.t.Kids)]}) + fmt.Sprint(a.s.Args[:cap(a.s.Args)]) + outlineValues(a.l[:cap(a.l)]...) + outlineValues(a.v) + fmt.Sprint(a.v.N.Mag[:cap(a.v.N.Mag)])
	for _, f := range a.m[:cap(a.m)] {
		out += outline([]api.Fun{f}) + fmt.Sprint(f.Sig.Args[:cap(f.Sig.Args)]) + outlineRows(f.Rows[:cap(f.Rows)]) + fmt.Sprint(f.Else.N.Mag[:cap(f.Else.N.Mag)])
		for _, one := range f.Rows {
			out += outlineValues(one.Args[:cap(one.Args)]...) + fmt.Sprint(one.V.N.Mag[:cap(one.V.N.Mag)])
		}
	}
	return out
}

// TestArgumentsStay: what is handed in stays as it is, the room behind it too,
// and that room counts for nothing.
func TestArgumentsStay(t *testing.T) {
	for _, a := range asks() {
		mine := copyOfAsk(a)
		was := outlineAll(mine)
		if answers(mine) != answers(a) {
			t.Errorf("P12.1: %s: told otherwise with room behind it", brief(was))
		}
		if outlineAll(mine) != was {
			t.Errorf("P12.1: %s is changed to %s", brief(was), brief(outlineAll(mine)))
		}
	}
}

func scribbleValue(v api.Value) {
	limbs := v.N.Mag[:cap(v.N.Mag)]
	for i := range limbs {
		limbs[i] = 123456
	}
}

func scribble(m []api.Fun) {
	for _, f := range m {
		scribbleValue(f.Else)
		sorts := f.Sig.Args[:cap(f.Sig.Args)]
		for i := range sorts {
			sorts[i] = 55
		}
		for _, one := range f.Rows {
			scribbleValue(one.V)
			for _, v := range one.Args {
				scribbleValue(v)
			}
			args := one.Args[:cap(one.Args)]
			for i := range args {
				args[i] = api.Value{Sort: 55}
			}
		}
		rows := f.Rows[:cap(f.Rows)]
		for i := range rows {
			rows[i] = api.Row{V: truth(1)}
		}
	}
	room := m[:cap(m)]
	for i := range room {
		room[i] = constant("scribble", number(55))
	}
}

// TestAnswersAreNew writes over answers, with the room behind, and then over what
// was handed in: no other answer, earlier or later, is touched, nor is what was
// handed in.
func TestAnswersAreNew(t *testing.T) {
	for _, a := range asks() {
		mine := copyOfAsk(a)
		was, want := outlineAll(mine), answers(mine)
		of, worth, with := value.Of(mine.m, mine.s, mine.l), value.Eval(mine.t, mine.m), value.Put(mine.m, mine.name, mine.v)
		ofAgain, worthAgain, withAgain := value.Of(mine.m, mine.s, mine.l), value.Eval(mine.t, mine.m), value.Put(mine.m, mine.name, mine.v)
		wantOf, wantWorth, wantWith := outlineValues(of), outlineValues(worth), outline(with)
		scribbleValue(of)
		if outlineValues(worth) != wantWorth || outline(with) != wantWith {
			t.Errorf("P12.1: %s: an answer shares memory with another one", brief(was))
		}
		scribbleValue(worth)
		scribble(with)
		if outlineValues(ofAgain) != wantOf || outlineValues(worthAgain) != wantWorth || outline(withAgain) != wantWith {
			t.Errorf("P12.1: %s: an answer shares memory with another one", brief(was))
		}
		if outlineAll(mine) != was || answers(mine) != want {
			t.Errorf("P12.1: %s: an answer shares memory with what was handed in", brief(was))
		}
		scribble(mine.m)
		scribbleValue(mine.v)
		for _, v := range mine.l {
			scribbleValue(v)
		}
		if outlineValues(ofAgain) != wantOf || outlineValues(worthAgain) != wantWorth || outline(withAgain) != wantWith {
			t.Errorf("P12.1: %s: an answer keeps what was handed in", brief(was))
		}
	}
}

// span tells where a list lies, with the room behind it.
func span[T any](l []T) [][2]uintptr {
	if cap(l) == 0 {
		return nil
	}
	var one T
	begin := uintptr(unsafe.Pointer(unsafe.SliceData(l)))
	return [][2]uintptr{{begin, begin + uintptr(cap(l))*unsafe.Sizeof(one)}}
}

// places tells where each list of the functions lies; what lies in the room
// counts as well.
func places(m []api.Fun) [][2]uintptr {
	out := span(m)
	for _, f := range m[:cap(m)] {
		out = slices.Concat(out, span(f.Sig.Args), span(f.Rows), span(f.Else.N.Mag))
		for _, one := range f.Rows[:cap(f.Rows)] {
			out = slices.Concat(out, span(one.Args), span(one.V.N.Mag))
			for _, v := range one.Args[:cap(one.Args)] {
				out = append(out, span(v.N.Mag)...)
			}
		}
	}
	return out
}

// TestListsShareNothing: no two lists of one answer lie over one another, also
// where those that were handed in do.
func TestListsShareNothing(t *testing.T) {
	shared := api.Value{Sort: api.SInt, N: long(1)}
	sorts, args := []int{api.SInt}, []api.Value{shared}
	rows := []api.Row{row(shared, args...), {Args: args, V: shared}}
	one := api.Fun{Sig: api.Sig{Args: sorts, Ret: api.SInt}, Rows: rows, Else: shared}
	other := one
	one.Sig.Name, other.Sig.Name = "f", "g"
	all := append(asks(), ask{m: []api.Fun{one, other, constant("h", shared)}, name: "a", v: shared})
	for _, a := range all {
		got := places(value.Put(a.m, a.name, a.v))
		slices.SortFunc(got, func(a, b [2]uintptr) int { return int(int64(a[0]) - int64(b[0])) })
		for i := 1; i < len(got); i++ {
			if got[i][0] < got[i-1][1] {
				t.Errorf("P12.3: two lists of one answer share memory: %s", brief(outlineAll(a)))
				break
			}
		}
	}
	if m := value.Put(all[len(all)-1].m, "a", shared); len(m) != 4 || !value.Is(m) {
		t.Errorf("P12.3: %s", outline(m))
	}
}

// TestNothingIsKept asks in another order: no answer hangs on those before it.
func TestNothingIsKept(t *testing.T) {
	all := asks()
	var want []string
	for _, a := range all {
		want = append(want, answers(a))
	}
	for i, a := range slices.Backward(all) {
		if got := answers(a); got != want[i] {
			t.Errorf("P12.2: %s, then %s", brief(want[i]), brief(got))
		}
	}
}

func TestAtOnce(t *testing.T) {
	all := asks()
	var want []string
	for _, a := range all {
		want = append(want, answers(a))
	}
	var wait sync.WaitGroup
	for range 4 {
		wait.Go(func() {
			for i, a := range all {
				if got := answers(a); got != want[i] {
					t.Errorf("P12.2: %s, at once with others %s", brief(want[i]), brief(got))
				}
			}
		})
	}
	wait.Wait()
}

// TestUntidy takes terms and structures of any make: each call comes back, and
// what it tells is told of nothing where no structure is.
func TestUntidy(t *testing.T) {
	r := rand.New(rand.NewSource(7))
	for range 20000 {
		in, m := untidy(r, 3), someStructure(r)
		for range r.Intn(3) {
			m = tampered(r, m)
		}
		if !legal(m) && outlineValues(value.Eval(in, m)) != outlineValues(value.Eval(in, nil)) {
			t.Errorf("P12.1: %s in %s", outlineTerm(in), outline(m))
		}
		if got := value.Eval(in, m); !legalValue(got) {
			t.Errorf("P12.2: %s: %s", outlineTerm(in), outlineValues(got))
		}
		l := []api.Value{someValue(r, r.Intn(4)), someValue(r, r.Intn(4))}[r.Intn(3):]
		value.Of(m, api.Sig{Name: pick(r, "f", "x", ""), Args: []int{r.Intn(4), r.Intn(4)}[r.Intn(3):], Ret: r.Intn(4)}, l)
		value.Put(m, pick(r, "", "x", "5", "zz"), someValue(r, r.Intn(4)))
	}
}

// untidy gives what is a term or not.
func untidy(r *rand.Rand, n int) api.Term {
	out := someTerm(r, someSort(r), n)
	at := &out
	for len(at.Kids) > 0 && r.Intn(4) > 0 {
		at = &at.Kids[r.Intn(len(at.Kids))]
	}
	switch r.Intn(6) {
	case 0:
		at.Op = r.Intn(25) - 1
	case 1:
		at.Sort = r.Intn(4)
	case 2:
		at.Name = pick(r, "", "x", "a b")
	case 3:
		at.N = pick(r, api.Int{}, api.Int{Neg: true}, api.Int{Mag: []uint32{api.Base}})
	case 4:
		at.Kids = pick(r, nil, []api.Term{{}}, []api.Term{x()}, []api.Term{p(), p()}, at.Kids[:len(at.Kids)/2])
	}
	return out
}
