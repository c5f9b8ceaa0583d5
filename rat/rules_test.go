package rat_test

import (
	"fmt"
	"math/rand"
	"slices"
	"sync"
	"testing"

	"mullion/api"
	"mullion/rat"
	"mullion/whole"
)

// answers gives each fraction that a call answers of a and b; integers as such
// without a Q.
func answers(a, b api.Rat) []api.Rat {
	divided, _ := rat.Div(a, b)
	return []api.Rat{rat.Neg(a), rat.Add(a, b), rat.Sub(a, b), rat.Mul(a, b), divided, {P: rat.Floor(a)}, {P: rat.Ceil(a)}, rat.Of(a.P, b.P), rat.Of(api.Int{Mag: a.Q}, b.P), rat.Int(a.P)}
}

// told tells all that the calls answer of a and b, Is and what takes integers
// left out.
func told(a, b api.Rat) string {
	_, errno := rat.Div(a, b)
	out := fmt.Sprint(rat.Cmp(a, b), rat.Same(a, b), rat.Whole(a), errno)
	for i, answer := range answers(a, b)[:7] {
		out += fmt.Sprint("; ", number(answer.P), " ", number(api.Int{Mag: answer.Q}))
		if i < 5 && !rat.Is(answer) || i >= 5 && !whole.Is(answer.P) {
			out += " (wrong)"
		}
	}
	return out
}

// pairs gives values of all kinds, two by two: fractions, and what is none.
func pairs() [][2]api.Rat {
	r := rand.New(rand.NewSource(5))
	all := append(ordered()[:16], wrongs()...)
	for range 5 {
		all = append(all, someOver(r, 12))
	}
	var out [][2]api.Rat
	for i, a := range all {
		for j := i % 3; j < len(all); j += 3 {
			out = append(out, [2]api.Rat{a, all[j]})
		}
	}
	return out
}

func TestWrongOnesAre0(t *testing.T) {
	for _, p := range pairs() {
		a, b := p[0], p[1]
		if !rat.Is(a) {
			a = over(0, 1)
		}
		if !rat.Is(b) {
			b = over(0, 1)
		}
		if got, want := told(p[0], p[1]), told(a, b); got != want {
			t.Errorf("P5.1: %v, %v: %s, not %s", p[0], p[1], got, want)
		}
	}
}

// TestWrongOnes says it out, value by value.
func TestWrongOnes(t *testing.T) {
	zero, half, less := over(0, 1), over(1, 2), over(-1, 2)
	for _, bad := range wrongs() {
		if rat.Cmp(bad, half) != -1 || rat.Cmp(half, bad) != 1 || rat.Cmp(bad, less) != 1 || rat.Cmp(less, bad) != -1 {
			t.Errorf("P5.1: %v lies between -1/2 and 1/2", bad)
		}
		if !rat.Same(bad, zero) || !rat.Same(zero, bad) || !rat.Same(bad, api.Rat{}) || rat.Same(bad, half) || !rat.Whole(bad) {
			t.Errorf("P5.1: %v is the same as 0", bad)
		}
		for i, got := range answers(bad, half)[:5] {
			if want := []api.Rat{zero, half, less, zero, zero}[i]; !equal(got, want) {
				t.Errorf("P5.1: answer %d of %v and 1/2: %v", i, bad, got)
			}
		}
		for i, got := range answers(half, bad)[:5] {
			if want := []api.Rat{less, half, half, zero, zero}[i]; !equal(got, want) {
				t.Errorf("P5.1: answer %d of 1/2 and %v: %v", i, bad, got)
			}
		}
		if !same(rat.Floor(bad), api.Int{}) || !same(rat.Ceil(bad), api.Int{}) {
			t.Errorf("P5.1: Floor, Ceil of %v: %v, %v", bad, rat.Floor(bad), rat.Ceil(bad))
		}
	}
}

// roomy gives l with spare room behind it, and that room with it.
func roomy(l []uint32) (own, all []uint32) {
	all = append(slices.Clone(l), 11, 22, 33, 44)
	return all[:len(l)], all
}

// scribble writes over a list's limbs and all the room behind them.
func scribble(l []uint32) {
	all := l[:cap(l)]
	for i := range all {
		all[i] = 123
	}
}

func TestArgumentsStay(t *testing.T) {
	for _, p := range pairs() {
		var with [2]api.Rat
		var all, was [4][]uint32
		for i, a := range p {
			with[i].P.Neg = a.P.Neg
			with[i].P.Mag, all[2*i] = roomy(a.P.Mag)
			with[i].Q, all[2*i+1] = roomy(a.Q)
		}
		for i, l := range all {
			was[i] = slices.Clone(l)
		}
		rat.Is(with[0])
		told(with[0], with[1])
		for _, answer := range answers(with[0], with[1]) {
			scribble(answer.P.Mag)
			scribble(answer.Q)
		}
		for i := range all {
			if !slices.Equal(all[i], was[i]) {
				t.Fatalf("P5.1: %v, %v: an argument is changed, or an answer shares its memory", p[0], p[1])
			}
		}
	}
}

func TestAnswersAreNew(t *testing.T) {
	for _, p := range pairs() {
		want := told(p[0], p[1])
		var lists, was [][]uint32
		for _, answer := range answers(p[0], p[1]) {
			lists = append(lists, answer.P.Mag, answer.Q)
		}
		for _, l := range lists {
			was = append(was, slices.Clone(l))
		}
		for i, l := range lists {
			if !slices.Equal(l, was[i]) {
				t.Fatalf("P5.1: %v, %v: list %d shares memory with another one", p[0], p[1], i)
			}
			scribble(l)
		}
		if got := told(p[0], p[1]); got != want {
			t.Fatalf("P5.1: %v, %v: %s, then %s", p[0], p[1], want, got)
		}
	}
}

// TestOneValueTwice hands in the same memory in both places, and as both parts.
func TestOneValueTwice(t *testing.T) {
	r := rand.New(rand.NewSource(6))
	for range 200 {
		a := someOver(r, 20)
		check(t, a, a)
		check(t, a, api.Rat{P: a.P, Q: []uint32{1}})
		check(t, api.Rat{P: api.Int{Mag: a.Q}, Q: []uint32{1}}, a)
	}
	both := []uint32{1}
	a := api.Rat{P: plus(both...), Q: both}
	check(t, a, a)
	if !equal(a, over(1, 1)) {
		t.Errorf("P5.1: 1 is changed: %v", a)
	}
}

func TestAtOnce(t *testing.T) {
	all := pairs()
	want := make([]string, len(all))
	for i, p := range all {
		want[i] = told(p[0], p[1])
	}
	var wait sync.WaitGroup
	for range 4 {
		wait.Go(func() {
			for i, p := range all {
				if got := told(p[0], p[1]); got != want[i] {
					t.Errorf("P5.1: %v, %v: %s, at once with others %s", p[0], p[1], want[i], got)
				}
			}
		})
	}
	wait.Wait()
}
