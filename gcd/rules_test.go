package gcd_test

import (
	"math/rand"
	"slices"
	"sync"
	"testing"

	"mullion/api"
	"mullion/gcd"
	"mullion/whole"
)

// answers gives each integer that a call answers of a and b.
func answers(a, b api.Int) []api.Int {
	g, x, y := gcd.Ext(a, b)
	return []api.Int{gcd.Of(a, b), gcd.Lcm(a, b), gcd.All([]api.Int{a}), gcd.All([]api.Int{a, b, a}), g, x, y}
}

// told tells all that the calls answer of a and b.
func told(a, b api.Int) string {
	out := ""
	for _, answer := range answers(a, b) {
		out += number(answer).String() + "; "
		if !whole.Is(answer) {
			out += "(no integer) "
		}
	}
	return out
}

// pairs gives values of all kinds, two by two: integers, and what is none.
func pairs() [][2]api.Int {
	r := rand.New(rand.NewSource(6))
	all := []api.Int{{}, {Mag: []uint32{}}, plus(1), minus(1), plus(6), minus(6), plus(last), minus(0, 1), plus(0, 0, 6), minus(7, 8, 9), minus(last, last, last, last)}
	for range 6 {
		all = append(all, some(r, 20))
	}
	all = append(all, wrong()...)
	var out [][2]api.Int
	for _, a := range all {
		for _, b := range all {
			out = append(out, [2]api.Int{a, b})
		}
	}
	return out
}

func TestWrongOnesAre0(t *testing.T) {
	for _, p := range pairs() {
		a, b := p[0], p[1]
		if !whole.Is(a) {
			a = api.Int{}
		}
		if !whole.Is(b) {
			b = api.Int{}
		}
		if got, want := told(p[0], p[1]), told(a, b); got != want {
			t.Errorf("P4.1, P4.2: %v, %v: %s, not %s", p[0], p[1], got, want)
		}
	}
}

// TestWrongOnes says it out, value by value.
func TestWrongOnes(t *testing.T) {
	zero, one, six, less := api.Int{}, plus(1), plus(6), minus(6)
	for _, bad := range wrong() {
		for i, got := range answers(bad, less) {
			if want := []api.Int{six, zero, zero, six, six, zero, minus(1)}[i]; !equal(got, want) {
				t.Errorf("P4.1, P4.2: answer %d of %v and -6: %v", i, bad, got)
			}
		}
		for i, got := range answers(six, bad) {
			if want := []api.Int{six, zero, six, six, six, one, zero}[i]; !equal(got, want) {
				t.Errorf("P4.1, P4.2: answer %d of 6 and %v: %v", i, bad, got)
			}
		}
		for i, got := range answers(bad, bad) {
			if !equal(got, zero) {
				t.Errorf("P4.1, P4.2: answer %d of %v twice: %v", i, bad, got)
			}
		}
		if got := gcd.All([]api.Int{less, bad, plus(9), bad}); !equal(got, plus(3)) {
			t.Errorf("P4.1: All of -6, 9 and %v: %v", bad, got)
		}
	}
	if got := gcd.All(wrong()); !equal(got, zero) {
		t.Errorf("P4.1: All of what is no integer: %v", got)
	}
}

// roomy gives a with spare room behind it, and that room with it.
func roomy(a api.Int) (api.Int, []uint32) {
	all := append(slices.Clone(a.Mag), 11, 22, 33, 44)
	return api.Int{Neg: a.Neg, Mag: all[:len(a.Mag)]}, all
}

// scribble writes over an integer's limbs and all the room behind them.
func scribble(a api.Int) {
	all := a.Mag[:cap(a.Mag)]
	for i := range all {
		all[i] = 123
	}
}

func TestArgumentsStay(t *testing.T) {
	for _, p := range pairs() {
		a, allA := roomy(p[0])
		b, allB := roomy(p[1])
		wasA, wasB := slices.Clone(allA), slices.Clone(allB)
		for _, answer := range answers(a, b) {
			scribble(answer)
		}
		if !slices.Equal(allA, wasA) || !slices.Equal(allB, wasB) {
			t.Fatalf("P4.1, P4.2: %v, %v: an argument is changed, or an answer shares its memory", p[0], p[1])
		}
	}
}

// TestListsStay hands in a list with spare room behind it.
func TestListsStay(t *testing.T) {
	all := []api.Int{minus(12), {}, plus(0, 0, 18), {Neg: true}, plus(5), minus(7)}
	was := []api.Int{minus(12), {}, plus(0, 0, 18), {Neg: true}, plus(5), minus(7)}
	scribble(gcd.All(all[:4]))
	scribble(gcd.All(all[:1]))
	scribble(gcd.All(all[2:3]))
	if !slices.EqualFunc(all, was, equal) {
		t.Errorf("P4.1: All changes the list that it is given: %v", all)
	}
}

func TestAnswersAreNew(t *testing.T) {
	for _, p := range pairs() {
		want := told(p[0], p[1])
		earlier := answers(p[0], p[1])
		was := make([]api.Int, len(earlier))
		for i, answer := range earlier {
			was[i] = api.Int{Neg: answer.Neg, Mag: slices.Clone(answer.Mag)}
		}
		for i, answer := range earlier {
			if !equal(answer, was[i]) {
				t.Fatalf("P4.1, P4.2: %v, %v: answer %d shares memory with another one", p[0], p[1], i)
			}
			scribble(answer)
		}
		if got := told(p[0], p[1]); got != want {
			t.Fatalf("P4.1, P4.2: %v, %v: %s, then %s", p[0], p[1], want, got)
		}
	}
}

func TestOneValueTwice(t *testing.T) {
	r := rand.New(rand.NewSource(7))
	for range 300 {
		a := some(r, 30)
		check(t, a, a)
		checkExt(t, a, a)
		if len(a.Mag) > 0 {
			part := api.Int{Neg: !a.Neg, Mag: a.Mag[len(a.Mag)/2:]}
			check(t, a, part)
			checkExt(t, a, part)
			checkExt(t, part, a)
		}
	}
}

func TestAtOnce(t *testing.T) {
	all := pairs()
	want := make([]string, len(all))
	for i, p := range all {
		want[i] = told(p[0], p[1])
	}
	var wait sync.WaitGroup
	for range 4 {
		wait.Go(func() {
			for i, p := range all {
				if got := told(p[0], p[1]); got != want[i] {
					t.Errorf("P4.1, P4.2: %v, %v: %s, at once with others %s", p[0], p[1], want[i], got)
				}
			}
		})
	}
	wait.Wait()
}
