package whole_test

import (
	"fmt"
	"math/rand"
	"slices"
	"sync"
	"testing"

	"mullion/api"
	"mullion/whole"
)

// answers gives each integer that a call answers of a and b.
func answers(a, b api.Int) []api.Int {
	down, rest := whole.Floor(a, b)
	times, left := whole.Euclid(a, b)
	return []api.Int{whole.Neg(a), whole.Abs(a), whole.Add(a, b), whole.Sub(a, b), whole.Mul(a, b), down, rest, times, left}
}

// told tells all that the calls answer of a and b, Is left out.
func told(a, b api.Int) string {
	n, fits := whole.Small(a)
	out := fmt.Sprint(n, fits, whole.Sign(a), whole.Cmp(a, b), whole.Same(a, b))
	for _, answer := range answers(a, b) {
		out += "; " + number(answer).String()
		if !whole.Is(answer) {
			out += " (no integer)"
		}
	}
	return out
}

// pairs gives values of all kinds, two by two: integers, and what is none.
func pairs() [][2]api.Int {
	r := rand.New(rand.NewSource(5))
	all := []api.Int{{}, {Mag: []uint32{}}, plus(1), minus(1), plus(2), minus(2), plus(last), minus(0, 1), plus(7, 8, 9), minus(7, 8, 9), minus(last, last, last, last), plus(854775807, 223372036, 9), minus(854775808, 223372036, 9)}
	for range 8 {
		all = append(all, some(r, 130))
	}
	all = append(all, wrong()...)
	var out [][2]api.Int
	for _, a := range all {
		for _, b := range all {
			out = append(out, [2]api.Int{a, b})
		}
	}
	return out
}

func TestWrongOnesAre0(t *testing.T) {
	for _, p := range pairs() {
		a, b := p[0], p[1]
		if !whole.Is(a) {
			a = api.Int{}
		}
		if !whole.Is(b) {
			b = api.Int{}
		}
		if got, want := told(p[0], p[1]), told(a, b); got != want {
			t.Errorf("P2.1: %v, %v: %s, not %s", p[0], p[1], got, want)
		}
	}
}

// TestWrongOnes says it out, value by value.
func TestWrongOnes(t *testing.T) {
	zero, five, less := api.Int{}, plus(5), minus(5)
	for _, bad := range wrong() {
		if n, fits := whole.Small(bad); n != 0 || !fits || whole.Sign(bad) != 0 {
			t.Errorf("P2.1: Small(%v): %d, %t", bad, n, fits)
		}
		if whole.Cmp(bad, five) != -1 || whole.Cmp(five, bad) != 1 || whole.Cmp(bad, less) != 1 || whole.Cmp(less, bad) != -1 {
			t.Errorf("P2.1: %v lies between -5 and 5", bad)
		}
		if !whole.Same(bad, zero) || !whole.Same(zero, bad) || !whole.Same(bad, api.Int{Neg: true}) || whole.Same(bad, five) {
			t.Errorf("P2.1: %v is the same as 0", bad)
		}
		for i, got := range answers(bad, less) {
			if want := []api.Int{zero, zero, less, five, zero, zero, zero, zero, zero}[i]; !equal(got, want) {
				t.Errorf("P2.1, P2.2: answer %d of %v and -5: %v", i, bad, got)
			}
		}
		for i, got := range answers(less, bad) {
			if want := []api.Int{five, five, less, less, zero, zero, less, zero, less}[i]; !equal(got, want) {
				t.Errorf("P2.1, P2.2: answer %d of -5 and %v: %v", i, bad, got)
			}
		}
	}
}

// roomy gives a with spare room behind it, and that room with it.
func roomy(a api.Int) (api.Int, []uint32) {
	all := append(slices.Clone(a.Mag), 11, 22, 33, 44)
	return api.Int{Neg: a.Neg, Mag: all[:len(a.Mag)]}, all
}

// scribble writes over an integer's limbs and all the room behind them.
func scribble(a api.Int) {
	all := a.Mag[:cap(a.Mag)]
	for i := range all {
		all[i] = 123
	}
}

func TestArgumentsStay(t *testing.T) {
	for _, p := range pairs() {
		a, allA := roomy(p[0])
		b, allB := roomy(p[1])
		wasA, wasB := slices.Clone(allA), slices.Clone(allB)
		told(a, b)
		for _, answer := range answers(a, b) {
			scribble(answer)
		}
		if !slices.Equal(allA, wasA) || !slices.Equal(allB, wasB) {
			t.Fatalf("P2.1, P2.2: %v, %v: an argument is changed, or an answer shares its memory", p[0], p[1])
		}
	}
}

func TestAnswersAreNew(t *testing.T) {
	for _, p := range pairs() {
		want := told(p[0], p[1])
		earlier := answers(p[0], p[1])
		was := make([]api.Int, len(earlier))
		for i, answer := range earlier {
			was[i] = api.Int{Neg: answer.Neg, Mag: slices.Clone(answer.Mag)}
		}
		for i, answer := range earlier {
			if !equal(answer, was[i]) {
				t.Fatalf("P2.1, P2.2: %v, %v: answer %d shares memory with another one", p[0], p[1], i)
			}
			scribble(answer)
		}
		if got := told(p[0], p[1]); got != want {
			t.Fatalf("P2.1, P2.2: %v, %v: %s, then %s", p[0], p[1], want, got)
		}
	}
	first, second := whole.Of(-5), whole.Of(-5)
	scribble(first)
	if !equal(second, minus(5)) || !equal(whole.Of(-5), minus(5)) {
		t.Error("P2.1: answers of Of share memory")
	}
}

func TestOneValueTwice(t *testing.T) {
	r := rand.New(rand.NewSource(6))
	for range 500 {
		a := some(r, 90)
		check(t, a, a)
		if len(a.Mag) > 0 {
			part := api.Int{Neg: !a.Neg, Mag: a.Mag[len(a.Mag)/2:]}
			check(t, a, part)
			check(t, part, a)
		}
	}
}

func TestAtOnce(t *testing.T) {
	all := pairs()
	want := make([]string, len(all))
	for i, p := range all {
		want[i] = told(p[0], p[1])
	}
	var wait sync.WaitGroup
	for range 4 {
		wait.Go(func() {
			for i, p := range all {
				if got := told(p[0], p[1]); got != want[i] {
					t.Errorf("P2.3: %v, %v: %s, at once with others %s", p[0], p[1], want[i], got)
				}
			}
		})
	}
	wait.Wait()
}
