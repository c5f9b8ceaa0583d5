package lin_test

import (
	"fmt"
	"math/rand"
	"slices"
	"sync"
	"testing"

	"mullion/api"
	"mullion/lin"
	"mullion/whole"
)

// points gives values for variables, what is no integer among them.
func points() [][]api.Int {
	return [][]api.Int{nil, {}, smalls(3), smalls(2, -5, 7, 1, 4, 6), {plus(0, 1), {Neg: true}, minus(7, 8, 9), plus(6, 0), plus(3)}}
}

// forms gives each form that a call answers of a and b.
func forms(a, b api.Lin) []api.Lin {
	return []api.Lin{lin.Add(a, b), lin.Sub(a, b), lin.Scale(a, plus(0, 1)), lin.Scale(a, minus(3)), lin.Put(a, 0, b), lin.Put(a, 1, b), lin.Put(a, -1, b), lin.Put(a, 3, b), lin.Const(a.K), lin.Var(len(a.T))}
}

// integers gives each integer that a call answers of a.
func integers(a api.Lin) []api.Int {
	out := []api.Int{lin.Gcd(a), lin.Coef(a, -1), lin.Coef(a, 0), lin.Coef(a, 1), lin.Coef(a, 3)}
	for _, x := range points() {
		out = append(out, lin.At(a, x))
	}
	return out
}

// told tells all that the calls answer of a and b; without Is, and without what
// takes no forms.
func told(a, b api.Lin) string {
	out := fmt.Sprint(lin.Same(a, b))
	for _, answer := range forms(a, b)[:8] {
		out += "; " + number(answer.K).String()
		for _, m := range answer.T {
			out += fmt.Sprint(" ", m.V, " ", number(m.C))
		}
		if !lin.Is(answer) {
			out += " (no form)"
		}
	}
	for _, answer := range integers(a) {
		out += "; " + number(answer).String()
		if !whole.Is(answer) {
			out += " (no integer)"
		}
	}
	return out
}

// pairs gives values of all kinds, two by two: forms, and what is none.
func pairs() [][2]api.Lin {
	r := rand.New(rand.NewSource(6))
	all := append(ones(), wrongs()[:40]...)
	for range 6 {
		all = append(all, some(r, 5, 4))
	}
	var out [][2]api.Lin
	for _, a := range all {
		for _, b := range all {
			out = append(out, [2]api.Lin{a, b})
		}
	}
	return out
}

func TestWrongOnesAre0(t *testing.T) {
	for _, p := range pairs() {
		a, b := p[0], p[1]
		if !lin.Is(a) {
			a = api.Lin{}
		}
		if !lin.Is(b) {
			b = api.Lin{}
		}
		if got, want := told(p[0], p[1]), told(a, b); got != want {
			t.Errorf("P6.1, P6.2: %v, %v: %s, not %s", p[0], p[1], got, want)
		}
	}
}

// TestWrongOnes says it out, value by value.
func TestWrongOnes(t *testing.T) {
	zero, a, less := form(0), form(5, 1, 0, -2), form(-5, -1, 0, 2)
	for _, bad := range wrongs() {
		for i, c := range []struct{ got, want api.Lin }{
			{lin.Add(bad, a), a},
			{lin.Add(a, bad), a},
			{lin.Add(bad, bad), zero},
			{lin.Sub(bad, a), less},
			{lin.Sub(a, bad), a},
			{lin.Sub(bad, bad), zero},
			{lin.Scale(bad, plus(5)), zero},
			{lin.Put(bad, 0, a), zero},
			{lin.Put(bad, 1, a), zero},
			{lin.Put(a, 0, bad), form(5, 0, 0, -2)},
			{lin.Put(a, 2, bad), form(5, 1)},
			{lin.Put(a, 1, bad), a},
			{lin.Put(bad, 0, bad), zero},
		} {
			if !equal(c.got, c.want) {
				t.Errorf("P6.1, P6.2: answer %d of %v: %v", i, bad, c.got)
			}
		}
		for _, x := range points() {
			if got := lin.At(bad, x); !same(got, api.Int{}) {
				t.Errorf("P6.2: At(%v, %v): %v", bad, x, got)
			}
		}
	}
}

// lists gives every list of limbs that hangs on l.
func lists(l api.Lin) [][]uint32 {
	out := [][]uint32{l.K.Mag}
	for _, m := range l.T {
		out = append(out, m.C.Mag)
	}
	return out
}

// copied gives l on memory of its own, with spare room behind each list; full
// is l's T with that room.
func copied(l api.Lin) (out api.Lin, full []api.Mono) {
	for _, m := range l.T {
		full = append(full, api.Mono{V: m.V, C: roomy(m.C)})
	}
	full = append(full, times(5, 6), times(6, 7), times(-7, 8))
	return api.Lin{T: full[:len(l.T)], K: roomy(l.K)}, full
}

func roomy(n api.Int) api.Int {
	all := append(slices.Clone(n.Mag), 11, 22, 33)
	return api.Int{Neg: n.Neg, Mag: all[:len(n.Mag)]}
}

// all tells a whole memory: a form's lists, with the room behind them.
func all(l api.Lin, full []api.Mono) string {
	out := fmt.Sprint(len(l.T), l.K.Neg, full)
	for _, list := range append(lists(l), lists(api.Lin{T: full})...) {
		out += fmt.Sprint(list[:cap(list)])
	}
	return out
}

// scribble writes over all that hangs on a form, and the room behind it.
func scribble(l api.Lin) {
	for _, list := range lists(api.Lin{T: l.T[:cap(l.T)], K: l.K}) {
		scribbleLimbs(list)
	}
	room := l.T[:cap(l.T)]
	for i := range room {
		room[i] = api.Mono{V: -77, C: minus(123, 0)}
	}
}

func scribbleLimbs(l []uint32) {
	room := l[:cap(l)]
	for i := range room {
		room[i] = 123
	}
}

func TestArgumentsStay(t *testing.T) {
	for _, p := range pairs() {
		a, fullA := copied(p[0])
		b, fullB := copied(p[1])
		was := all(a, fullA) + all(b, fullB)
		lin.Is(a)
		told(a, b)
		for _, answer := range forms(a, b) {
			scribble(answer)
		}
		for _, answer := range integers(a) {
			scribbleLimbs(answer.Mag)
		}
		if got := all(a, fullA) + all(b, fullB); got != was {
			t.Fatalf("P6.1, P6.2: %v, %v: an argument is changed, or an answer shares its memory", p[0], p[1])
		}
	}
}

// TestPointsStay hands in values with spare room behind them.
func TestPointsStay(t *testing.T) {
	full := []api.Int{roomy(plus(7, 8)), roomy(minus(3)), {Neg: true}, roomy(api.Int{}), roomy(plus(4)), plus(9)}
	x := full[:5]
	was := fmt.Sprint(full, full[0].Mag[:5], full[1].Mag[:4])
	for _, a := range append(ones(), wrongs()...) {
		scribbleLimbs(lin.At(a, x).Mag)
		if got := fmt.Sprint(full, full[0].Mag[:5], full[1].Mag[:4]); got != was {
			t.Fatalf("P6.2: At(%v, x) changes x, or shares its memory: %s", a, got)
		}
	}
	factor := roomy(minus(3))
	for _, a := range ones() {
		scribble(lin.Scale(a, factor))
		scribble(lin.Const(factor))
		if !slices.Equal(factor.Mag[:cap(factor.Mag)][:4], []uint32{3, 11, 22, 33}) {
			t.Fatalf("P6.1: Scale(%v, c), Const(c) change c, or share its memory", a)
		}
	}
}

// TestAnswersAreNew writes over an answer's lists one by one: none is touched by
// what is done with another one, nor is a later answer.
func TestAnswersAreNew(t *testing.T) {
	for _, p := range pairs() {
		want := told(p[0], p[1])
		var own [][]uint32
		for _, answer := range forms(p[0], p[1]) {
			own = append(own, lists(answer)...)
		}
		for _, answer := range integers(p[0]) {
			own = append(own, answer.Mag)
		}
		var was [][]uint32
		for _, l := range own {
			was = append(was, slices.Clone(l))
		}
		for i, l := range own {
			if !slices.Equal(l, was[i]) {
				t.Fatalf("P6.1, P6.2: %v, %v: list %d shares memory with another one", p[0], p[1], i)
			}
			scribbleLimbs(l)
		}
		for _, answer := range forms(p[0], p[1]) {
			scribble(answer)
		}
		if got := told(p[0], p[1]); got != want {
			t.Fatalf("P6.1, P6.2: %v, %v: %s, then %s", p[0], p[1], want, got)
		}
	}
}

// TestFormsApart writes over an answer and the room behind it: the others stay.
func TestFormsApart(t *testing.T) {
	for _, p := range pairs() {
		answers, again := forms(p[0], p[1]), forms(p[0], p[1])
		for i, answer := range answers {
			if !equal(answer, again[i]) {
				t.Fatalf("P6.1, P6.2: %v, %v: answer %d shares memory with another one", p[0], p[1], i)
			}
			scribble(answer)
		}
	}
}

// TestOneFormTwice hands in the same memory in both places, and a part of it.
func TestOneFormTwice(t *testing.T) {
	r := rand.New(rand.NewSource(7))
	for range 500 {
		a := some(r, 6, 3)
		part := api.Lin{T: a.T[len(a.T)/2:], K: a.K}
		v := r.Intn(6)
		check(t, a, a, a.K, v)
		check(t, a, part, a.K, v)
		check(t, part, a, a.K, v)
		if len(a.T) > 0 {
			check(t, a, a, a.T[0].C, a.T[0].V)
		}
	}
}

func TestAtOnce(t *testing.T) {
	all := pairs()
	want := make([]string, len(all))
	for i, p := range all {
		want[i] = told(p[0], p[1])
	}
	var wait sync.WaitGroup
	for range 4 {
		wait.Go(func() {
			for i, p := range all {
				if got := told(p[0], p[1]); got != want[i] {
					t.Errorf("P6.1, P6.2: %v, %v: %s, at once with others %s", p[0], p[1], want[i], got)
				}
			}
		})
	}
	wait.Wait()
}
