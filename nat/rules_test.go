package nat_test

import (
	"math/rand"
	"slices"
	"strconv"
	"sync"
	"testing"

	"mullion/api"
	"mullion/nat"
)

// answers gives each row that a call answers of a and b.
func answers(a, b []uint32) [][]uint32 {
	quotient, left := nat.Div(a, b)
	return [][]uint32{nat.Add(a, b), nat.Sub(a, b), nat.Mul(a, b), quotient, left}
}

// told tells all that the calls answer of a and b.
func told(a, b []uint32) string {
	out := strconv.Itoa(nat.Cmp(a, b)) + " " + strconv.FormatBool(nat.Even(a))
	for _, answer := range answers(a, b) {
		out += "; " + number(answer).String()
		if !nat.Is(answer) {
			out += " (no natural)"
		}
	}
	return out
}

// pairs gives rows of all kinds, two by two: naturals, and what is none.
func pairs() [][2][]uint32 {
	r := rand.New(rand.NewSource(6))
	all := [][]uint32{nil, {}, {1}, {2}, {last}, {0, 1}, {7, 8, 9}, {last, last, last, last}, power(70)}
	all = append(all, wrong...)
	all = append(all, rows(r, 130)...)
	var out [][2][]uint32
	for _, a := range all {
		for _, b := range all {
			out = append(out, [2][]uint32{a, b})
		}
	}
	return out
}

func TestWrongRowsAre0(t *testing.T) {
	for _, p := range pairs() {
		a, b := p[0], p[1]
		c, d := a, b
		if !nat.Is(c) {
			c = nil
		}
		if !nat.Is(d) {
			d = nil
		}
		if got, want := told(a, b), told(c, d); got != want {
			t.Errorf("P1.1: %v, %v: %s, not %s", a, b, got, want)
		}
	}
	five, bad := nat.Of(5), []uint32{api.Base, 1}
	if !nat.Even([]uint32{api.Base + 1}) || !nat.Even([]uint32{1, 0}) {
		t.Error("P1.1: what is no natural is even, as 0 is")
	}
	if nat.Cmp(bad, nil) != 0 || nat.Cmp(bad, five) != -1 || nat.Cmp(five, bad) != 1 || nat.Cmp(bad, []uint32{0}) != 0 {
		t.Error("P1.1: what is no natural is held to be 0")
	}
	for i, got := range answers(five, bad) {
		if want := [][]uint32{five, five, nil, nil, five}[i]; !slices.Equal(got, want) {
			t.Errorf("P1.2: answer %d of 5 and no natural: %v", i, got)
		}
	}
	for i, got := range answers(bad, five) {
		if want := [][]uint32{five, nil, nil, nil, nil}[i]; !slices.Equal(got, want) {
			t.Errorf("P1.2: answer %d of no natural and 5: %v", i, got)
		}
	}
}

// roomy gives a with spare room behind it, and that room with it.
func roomy(a []uint32) (short, whole []uint32) {
	whole = append(slices.Clone(a), 11, 22, 33, 44)
	return whole[:len(a)], whole
}

func TestArgumentsStay(t *testing.T) {
	for _, p := range pairs() {
		a, allA := roomy(p[0])
		b, allB := roomy(p[1])
		wasA, wasB := slices.Clone(allA), slices.Clone(allB)
		for _, answer := range answers(a, b) {
			scribble(answer)
		}
		nat.Cmp(a, b)
		nat.Even(a)
		nat.Is(a)
		if !slices.Equal(allA, wasA) || !slices.Equal(allB, wasB) {
			t.Fatalf("P1.2: %v, %v: an argument is changed, or an answer shares its memory", p[0], p[1])
		}
	}
}

// scribble writes over a row and all the room behind it.
func scribble(a []uint32) {
	for i := range a[:cap(a)] {
		a[:cap(a)][i] = 123
	}
}

func TestAnswersAreNew(t *testing.T) {
	for _, p := range pairs() {
		want := told(p[0], p[1])
		earlier := answers(p[0], p[1])
		was := make([][]uint32, len(earlier))
		for i, answer := range earlier {
			was[i] = slices.Clone(answer)
		}
		for i, answer := range earlier {
			if !slices.Equal(answer, was[i]) {
				t.Fatalf("P1.2: %v, %v: answer %d shares memory with another one", p[0], p[1], i)
			}
			scribble(answer)
		}
		if got := told(p[0], p[1]); got != want {
			t.Fatalf("P1.2: %v, %v: %s, then %s", p[0], p[1], want, got)
		}
	}
	first, second := nat.Of(5), nat.Of(5)
	scribble(first)
	if !slices.Equal(second, []uint32{5}) || !slices.Equal(nat.Of(5), []uint32{5}) {
		t.Error("P1.1: answers of Of share memory")
	}
}

func TestOneRowTwice(t *testing.T) {
	r := rand.New(rand.NewSource(7))
	for _, n := range []int{1, 2, 3, 40, 130} {
		for _, a := range rows(r, n) {
			check(t, a, a)
			check(t, a, a[n/2:])
			check(t, a[n/2:], a)
		}
	}
}

func TestAtOnce(t *testing.T) {
	all := pairs()
	want := make([]string, len(all))
	for i, p := range all {
		want[i] = told(p[0], p[1])
	}
	var wait sync.WaitGroup
	for range 4 {
		wait.Go(func() {
			for i, p := range all {
				if got := told(p[0], p[1]); got != want[i] {
					t.Errorf("P1.3: %v, %v: %s, at once with others %s", p[0], p[1], want[i], got)
				}
			}
		})
	}
	wait.Wait()
}
