package divs_test

import (
	"fmt"
	"math"
	"math/rand"
	"slices"
	"sync"
	"testing"
	"unsafe"

	"mullion/api"
	"mullion/divs"
)

// ask is what the calls are asked of.
type ask struct {
	t    api.Term
	m    []api.Fun
	next int
}

// asks gives some of all kinds.
func asks() []ask {
	r := rand.New(rand.NewSource(6))
	var out []ask
	for range 100 {
		one := ask{t: someTerm(r, someSort(r), 4), m: someStructure(r), next: r.Intn(30) - 5}
		if r.Intn(4) == 0 {
			one.t = untidy(r, 3)
		}
		if r.Intn(8) == 0 && len(one.m) > 0 {
			one.m[0].Else.Sort = 7
		}
		out = append(out, one)
	}
	kids := []api.Term{{Op: api.ONum, N: long(-1), Sort: api.SInt}, x()}
	shared := api.Term{Op: api.OAdd, Sort: api.SInt, Kids: kids}
	return append(out,
		ask{}, ask{t: mod(wide(390), num(7)), next: 3, m: []api.Fun{constant("x", far(1))}}, ask{t: within(199, x()), m: []api.Fun{constant("x", far(-1))}}, ask{t: add(shared, shared, div(shared, kids[0]), mod(shared, sub(kids[0])), ite(lt(shared, x()), shared, shared)), next: math.MaxInt},
		ask{t: api.Term{Op: 99, Kids: []api.Term{shared, shared}}, m: []api.Fun{constant("x", far(-1))}}, ask{t: shared}, ask{t: div(wide(395), num(2))}, ask{t: div(add(mod(wide(386), num(3)), shared, shared), sub(num(2))), m: []api.Fun{constant("z", far(-1)), {}}}, ask{t: kids[0]},
	)
}

// answers tells all that the calls answer.
func answers(a ask) string {
	out, held, next := divs.Do(a.t, a.next)
	return fmt.Sprint(outline(out), outline(held...), next, divs.Pure(a.t), outlineFuns(divs.Over(a.t, a.m, a.next)))
}

// roomy gives l in memory of its own, with room behind it that is written on.
func roomy[T any](l []T, room T) []T {
	out := append(make([]T, 0, 2*len(l)+1), l...)
	for i := range out[len(l):cap(out)] {
		out[len(l):cap(out)][i] = room
	}
	return out
}

func copyOfValue(v api.Value) api.Value {
	v.N.Mag = roomy(v.N.Mag, 77)
	return v
}

func copyOfValues(l []api.Value) []api.Value {
	out := roomy(l, number(77))
	for i, v := range l {
		out[i] = copyOfValue(v)
	}
	return out
}

func copyOfFuns(m []api.Fun) []api.Fun {
	out := roomy(m, constant("room", number(77)))
	for i, f := range m {
		f.Sig.Args = roomy(f.Sig.Args, 77)
		f.Rows = roomy(f.Rows, row(number(77), number(77)))
		for j, one := range f.Rows {
			f.Rows[j] = api.Row{Args: copyOfValues(one.Args), V: copyOfValue(one.V)}
		}
		f.Else = copyOfValue(f.Else)
		out[i] = f
	}
	return out
}

func copyOfTerm(t api.Term) api.Term {
	t.N.Mag = roomy(t.N.Mag, 77)
	kids := roomy(t.Kids, apply("room", api.SInt))
	for i, kid := range t.Kids {
		kids[i] = copyOfTerm(kid)
	}
	t.Kids = kids
	return t
}

func copyOfAsk(a ask) ask { return ask{t: copyOfTerm(a.t), m: copyOfFuns(a.m), next: a.next} }

// outlineAll tells all that is asked of, the room behind lists included.
func outlineAll(a ask) string {
	out := outlineRoom(a.t)
	for _, f := range a.m[:cap(a.m)] {
		out += outlineFuns([]api.Fun{f}) + fmt.Sprint(f.Sig.Args[:cap(f.Sig.Args)]) + outlineFuns([]api.Fun{{Rows: f.Rows[:cap(f.Rows)]}}) + fmt.Sprint(f.Else.N.Mag[:cap(f.Else.N.Mag)])
		for _, one := range f.Rows {
			out += outlineValues(one.Args[:cap(one.Args)]...) + fmt.Sprint(one.V.N.Mag[:cap(one.V.N.Mag)])
		}
	}
	return out
}

func outlineRoom(t api.Term) string {
	out := fmt.Sprint(t.Op, t.Sort, t.Name, t.N.Neg, t.N.Mag, t.N.Mag[:cap(t.N.Mag)], len(t.Kids), "[")
	for _, kid := range t.Kids[:cap(t.Kids)] {
		out += outlineRoom(kid)
	}
	return out + "]"
}

// TestArgumentsStay: what is handed in stays as it is, the room behind it too,
// and that room counts for nothing.
func TestArgumentsStay(t *testing.T) {
	for _, a := range asks() {
		mine := copyOfAsk(a)
		was := outlineAll(mine)
		if answers(mine) != answers(a) {
			t.Errorf("P14.1: %s: told otherwise with room behind it", brief(was))
		}
		if outlineAll(mine) != was {
			t.Errorf("P14.1: %s is changed to %s", brief(was), brief(outlineAll(mine)))
		}
	}
}

func scribbleValues(l ...api.Value) {
	for _, v := range l {
		limbs := v.N.Mag[:cap(v.N.Mag)]
		for i := range limbs {
			limbs[i] = 123456
		}
	}
}

func scribbleTerms(l []api.Term) {
	for _, t := range l[:cap(l)] {
		scribbleValues(api.Value{N: t.N})
		scribbleTerms(t.Kids)
	}
	all := l[:cap(l)]
	for i := range all {
		all[i] = apply("scribble", 55)
	}
}

func scribbleFuns(m []api.Fun) {
	for _, f := range m {
		scribbleValues(f.Else)
		sorts := f.Sig.Args[:cap(f.Sig.Args)]
		for i := range sorts {
			sorts[i] = 55
		}
		for _, one := range f.Rows {
			scribbleValues(one.V)
			scribbleValues(one.Args...)
			args := one.Args[:cap(one.Args)]
			for i := range args {
				args[i] = api.Value{Sort: 55}
			}
		}
		rows := f.Rows[:cap(f.Rows)]
		for i := range rows {
			rows[i] = api.Row{V: truth(1)}
		}
	}
	all := m[:cap(m)]
	for i := range all {
		all[i] = constant("scribble", number(55))
	}
}

// TestAnswersAreNew writes over answers, with the room behind, and then over what
// was handed in: no other answer, earlier or later, is touched, nor is what was
// handed in.
func TestAnswersAreNew(t *testing.T) {
	for _, a := range asks() {
		mine := copyOfAsk(a)
		was, want := outlineAll(mine), answers(mine)
		out, held, _ := divs.Do(mine.t, mine.next)
		with := divs.Over(mine.t, mine.m, mine.next)
		outAgain, heldAgain, _ := divs.Do(mine.t, mine.next)
		withAgain := divs.Over(mine.t, mine.m, mine.next)
		wantOut, wantHeld, wantWith := outline(out), outline(held...), outlineFuns(with)
		checkAgain := func(of string) {
			t.Helper()
			if outline(outAgain) != wantOut || outline(heldAgain...) != wantHeld || outlineFuns(withAgain) != wantWith {
				t.Errorf("P14.1: %s: %s", brief(was), of)
			}
		}
		scribbleTerms(held)
		if outline(out) != wantOut {
			t.Errorf("P14.1: %s: lists of one answer share memory", brief(was))
		}
		scribbleTerms([]api.Term{out})
		scribbleFuns(with)
		checkAgain("an answer shares memory with another one")
		if outlineAll(mine) != was || answers(mine) != want {
			t.Errorf("P14.1: %s: an answer shares memory with what was handed in", brief(was))
		}
		scribbleTerms([]api.Term{mine.t})
		scribbleFuns(mine.m)
		checkAgain("an answer keeps what was handed in")
	}
}

// span tells where a list lies, with the room behind it.
func span[T any](l []T) [][2]uintptr {
	if cap(l) == 0 {
		return nil
	}
	var one T
	begin := uintptr(unsafe.Pointer(unsafe.SliceData(l)))
	return [][2]uintptr{{begin, begin + uintptr(cap(l))*unsafe.Sizeof(one)}}
}

// placesOfTerms tells where each list of the terms lies; what lies in the room
// counts as well.
func placesOfTerms(l []api.Term) [][2]uintptr {
	out := span(l)
	for _, t := range l[:cap(l)] {
		out = slices.Concat(out, span(t.N.Mag), placesOfTerms(t.Kids))
	}
	return out
}

func placesOfFuns(m []api.Fun) [][2]uintptr {
	out := span(m)
	for _, f := range m[:cap(m)] {
		out = slices.Concat(out, span(f.Sig.Args), span(f.Rows), span(f.Else.N.Mag))
		for _, one := range f.Rows[:cap(f.Rows)] {
			out = slices.Concat(out, span(one.Args), span(one.V.N.Mag))
			for _, v := range one.Args[:cap(one.Args)] {
				out = append(out, span(v.N.Mag)...)
			}
		}
	}
	return out
}

func checkPlaces(t *testing.T, of string, all [][2]uintptr) {
	t.Helper()
	slices.SortFunc(all, func(a, b [2]uintptr) int { return int(int64(a[0]) - int64(b[0])) })
	for i := 1; i < len(all); i++ {
		if all[i][0] < all[i-1][1] {
			t.Errorf("P14.1: %s: two lists of one answer share memory", brief(of))
			return
		}
	}
}

// TestListsShareNothing: no two lists of one answer lie over one another, also
// where those that were handed in do.
func TestListsShareNothing(t *testing.T) {
	for _, a := range asks() {
		out, held, _ := divs.Do(a.t, a.next)
		checkPlaces(t, outlineAll(a), slices.Concat(placesOfTerms([]api.Term{out})[1:], placesOfTerms(held)))
		checkPlaces(t, outlineAll(a), placesOfFuns(divs.Over(a.t, a.m, a.next)))
	}
}

// TestNothingIsKept asks in another order: no answer hangs on those before it.
func TestNothingIsKept(t *testing.T) {
	all := asks()
	var want []string
	for _, a := range all {
		want = append(want, answers(a))
	}
	for i, a := range slices.Backward(all) {
		if got := answers(a); got != want[i] {
			t.Errorf("P14.1: %s, then %s", brief(want[i]), brief(got))
		}
	}
}

func TestAtOnce(t *testing.T) {
	all := asks()
	var want []string
	for _, a := range all {
		want = append(want, answers(a))
	}
	var wait sync.WaitGroup
	for range 4 {
		wait.Go(func() {
			for i, a := range all {
				if got := answers(a); got != want[i] {
					t.Errorf("P14.1: %s, at once with others %s", brief(want[i]), brief(got))
				}
			}
		})
	}
	wait.Wait()
}

// untidy gives what is a term or not.
func untidy(r *rand.Rand, n int) api.Term {
	out := someTerm(r, someSort(r), n)
	at := &out
	for len(at.Kids) > 0 && r.Intn(4) > 0 {
		at = &at.Kids[r.Intn(len(at.Kids))]
	}
	switch r.Intn(6) {
	case 0:
		at.Op = r.Intn(25) - 1
	case 1:
		at.Sort = r.Intn(4)
	case 2:
		at.Name = pick(r, "", "x", "a b")
	case 3:
		at.N = pick(r, api.Int{}, api.Int{Neg: true}, api.Int{Mag: []uint32{api.Base}})
	case 4:
		at.Kids = pick(r, nil, []api.Term{{}}, []api.Term{x()}, []api.Term{p(), p()}, at.Kids[:len(at.Kids)/2])
	}
	return out
}
