package lex_test

import (
	"fmt"
	"math/rand"
	"slices"
	"strings"
	"sync"
	"testing"

	"mullion/api"
	"mullion/lex"
)

// everything gives texts of all kinds: scripts, and what is none.
func everything() []string {
	r := rand.New(rand.NewSource(4))
	out := []string{"", " ", ";", "(x1)", "0", "01", ":", "[", most, tooMany, strings.Repeat("a ", 2000), strings.Repeat(" ", 4001)}
	for range 200 {
		out = append(out, spelt(r, someWords(r, 20)), someText(r, 10))
	}
	return out
}

// told tells all that the calls answer of s.
func told(s string) string {
	l, n, e := lex.Words(s)
	return fmt.Sprint(l, n, e, lex.Symbol(s), lex.Print(l), lex.Same(l, l), lex.Same(l, []api.Token{symbol(s)}))
}

// TestArgumentsStay hands in lists with spare room behind them.
func TestArgumentsStay(t *testing.T) {
	r := rand.New(rand.NewSource(5))
	for range 200 {
		all := append(someWords(r, 8), api.Token{}, symbol("b"), api.Token{Kind: 9, Text: "w"}, left())
		was := slices.Clone(all)
		for n := range len(all) + 1 {
			want := lex.Print(slices.Clone(all[:n]))
			if lex.Print(all[:n]) != want || !lex.Same(all[:n], was[:n]) || n > 0 && lex.Same(all[:n], all[:n-1]) {
				t.Fatalf("P8.2: %v: told otherwise with room behind it", was[:n])
			}
		}
		if !slices.Equal(all, was) {
			t.Fatalf("P8.2: %v is changed to %v", was, all)
		}
	}
}

// TestTextsStay writes over a list that was printed.
func TestTextsStay(t *testing.T) {
	l := []api.Token{symbol("a"), key("k")}
	s := lex.Print(l)
	l[0], l[1] = number("5"), left()
	if s != "a :k" {
		t.Errorf("P8.2: %s: a text changes with the list that it was told of", s)
	}
}

// TestAnswersAreNew writes over an answer and the room behind it: no other one,
// earlier or later, is touched.
func TestAnswersAreNew(t *testing.T) {
	for _, s := range everything() {
		first, _, _ := lex.Words(s)
		second, _, _ := lex.Words(s)
		was := slices.Clone(second)
		room := first[:cap(first)]
		for i := range room {
			room[i] = api.Token{Kind: 77, Text: "scribble"}
		}
		third, _, _ := lex.Words(s)
		if !slices.Equal(second, was) || !slices.Equal(third, was) {
			t.Errorf("P8.1: two answers of Words(%s) share memory", brief(s))
		}
	}
}

// TestNothingIsKept asks in another order: no answer hangs on those before it.
func TestNothingIsKept(t *testing.T) {
	all := everything()
	want := make([]string, len(all))
	for i, s := range all {
		want[i] = told(s)
	}
	for i, s := range slices.Backward(all) {
		if got := told(s); got != want[i] {
			t.Errorf("P8.1: %s: %s, then %s", brief(s), want[i], got)
		}
	}
}

func TestAtOnce(t *testing.T) {
	all := everything()
	want := make([]string, len(all))
	for i, s := range all {
		want[i] = told(s)
	}
	var wait sync.WaitGroup
	for range 4 {
		wait.Go(func() {
			for i, s := range all {
				if got := told(s); got != want[i] {
					t.Errorf("P8.1: %s: %s, at once with others %s", brief(s), want[i], got)
				}
			}
		})
	}
	wait.Wait()
}
