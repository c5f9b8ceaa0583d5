package digits_test

import (
	"math/rand"
	"slices"
	"strconv"
	"strings"
	"sync"
	"testing"

	"mullion/api"
	"mullion/digits"
)

// values gives integers of all kinds, and what is none.
func values() []api.Int {
	out := []api.Int{{}, {Neg: true}, plus(5), minus(5), plus(0, 1), minus(7, 8, 9)}
	for _, row := range wrong() {
		out = append(out, plus(row...), minus(slices.Clone(row)...))
	}
	r := rand.New(rand.NewSource(4))
	for range 40 {
		out = append(out, plus(some(r, 50)...), minus(some(r, 50)...))
	}
	return out
}

// told tells all that the calls answer of a, and of the text that it prints.
func told(a api.Int) string {
	s := digits.Print(a)
	n, e := digits.Parse(s)
	out := strings.Join([]string{digits.Nat(a.Mag), s, e.Error(), strconv.FormatBool(digits.Numeral(s)), strconv.FormatBool(n.Neg)}, "; ")
	for _, limb := range n.Mag {
		out += " " + strconv.Itoa(int(limb))
	}
	return out
}

func TestArgumentsStay(t *testing.T) {
	for _, a := range values() {
		all := append(slices.Clone(a.Mag), 11, 22, 33, 44)
		was := slices.Clone(all)
		told(api.Int{Neg: a.Neg, Mag: all[:len(a.Mag)]})
		if !slices.Equal(all, was) {
			t.Errorf("P3.1: %v is changed", a)
		}
	}
}

func TestAnswersAreNew(t *testing.T) {
	for _, s := range []string{"0", "5", "(- 5)", "1000000000", "(- 12000000000000000007)", strings.Repeat("9", 360)} {
		first, _ := digits.Parse(s)
		second, _ := digits.Parse(s)
		was := slices.Clone(second.Mag)
		all := first.Mag[:cap(first.Mag)]
		for i := range all {
			all[i] = 123
		}
		third, _ := digits.Parse(s)
		if !slices.Equal(second.Mag, was) || !slices.Equal(third.Mag, was) {
			t.Errorf("P3.2: two answers of Parse(%q) share memory", s)
		}
	}
}

func TestTextsStay(t *testing.T) {
	row := []uint32{7, 0, 12}
	s, n := digits.Print(minus(row...)), digits.Nat(row)
	row[0], row[1], row[2] = 1, 2, 3
	if s != "(- 12000000000000000007)" || n != "12000000000000000007" {
		t.Errorf("P3.1: %s, %s: a text changes with the row that it was told of", s, n)
	}
}

func TestAtOnce(t *testing.T) {
	all := values()
	want := make([]string, len(all))
	for i, a := range all {
		want[i] = told(a)
	}
	var wait sync.WaitGroup
	for range 4 {
		wait.Go(func() {
			for i, a := range all {
				if got := told(a); got != want[i] {
					t.Errorf("P3.3: %v: %s, at once with others %s", a, want[i], got)
				}
			}
		})
	}
	wait.Wait()
}
