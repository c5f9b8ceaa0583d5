package lex_test

import (
	"math"
	"math/rand"
	"slices"
	"strings"
	"testing"

	"mullion/api"
	"mullion/lex"
)

func TestPrint(t *testing.T) {
	for _, c := range []struct {
		l    []api.Token
		want string
	}{
		{nil, ""},
		{[]api.Token{}, ""},
		{[]api.Token{left()}, "("},
		{[]api.Token{right()}, ")"},
		{[]api.Token{number("0")}, "0"},
		{[]api.Token{number("120")}, "120"},
		{[]api.Token{symbol("x")}, "x"},
		{[]api.Token{key("k")}, ":k"},
		{[]api.Token{left(), right()}, "( )"},
		{[]api.Token{left(), left(), right(), right()}, "( ( ) )"},
		{[]api.Token{right(), left()}, ") ("},
		{[]api.Token{left(), symbol("<="), symbol("x"), number("5"), right()}, "( <= x 5 )"},
		{[]api.Token{key("a"), key("b"), symbol("c")}, ":a :b c"},
		{[]api.Token{number("1"), number("0"), number("0")}, "1 0 0"},
		{[]api.Token{symbol(most), number(strings.Repeat("7", 9000))}, most + " " + strings.Repeat("7", 9000)},
		{slices.Repeat([]api.Token{left()}, 5000), strings.Repeat("( ", 4999) + "("},
	} {
		if got := lex.Print(c.l); got != c.want {
			t.Errorf("P8.2: Print of %d words: %s, not %s", len(c.l), brief(got), brief(c.want))
		}
	}
}

// TestPrintNoWords takes tokens that no script has.
func TestPrintNoWords(t *testing.T) {
	for _, kind := range []int{0, 6, 9, -1, math.MaxInt, math.MinInt} {
		for _, text := range []string{"w", "", "a b", "(", ":", "é\xff"} {
			l := []api.Token{{Kind: kind, Text: text}}
			if got := lex.Print(l); got != text {
				t.Errorf("P8.2: Print(%v): %q", l, got)
			}
			l = []api.Token{left(), l[0], key("k")}
			if got := lex.Print(l); got != "( "+text+" :k" {
				t.Errorf("P8.2: Print(%v): %q", l, got)
			}
		}
	}
	for _, c := range []struct {
		l    []api.Token
		want string
	}{
		{[]api.Token{{}}, ""},
		{[]api.Token{{}, {}}, " "},
		{[]api.Token{{}, symbol("a"), {}}, " a "},
		{[]api.Token{symbol(""), number(""), key("")}, "  :"},
		{[]api.Token{key(":a"), key("5"), key("a b")}, "::a :5 :a b"},
		{[]api.Token{symbol("5"), number("a"), number("01"), symbol("(")}, "5 a 01 ("},
		{[]api.Token{{Kind: api.TLeft, Text: "a"}, {Kind: api.TRight, Text: "b"}}, "( )"},
	} {
		if got := lex.Print(c.l); got != c.want {
			t.Errorf("P8.2: Print(%v): %q, not %q", c.l, got, c.want)
		}
	}
}

// TestSame holds all short lists of tokens against each other.
func TestSame(t *testing.T) {
	if !lex.Same(nil, nil) || !lex.Same(nil, []api.Token{}) || !lex.Same([]api.Token{}, nil) {
		t.Error("P8.2: no words are the same as no words")
	}
	ones := []api.Token{left(), right(), number("0"), number("1"), symbol("a"), symbol("b"), key("a"), key("b"), {}, {Kind: 9, Text: "a"}, {Text: "a"}, {Kind: api.TLeft, Text: "a"}}
	all := [][]api.Token{nil}
	for i, a := range ones {
		all = append(all, []api.Token{a})
		for _, b := range ones[i/3:] {
			all = append(all, []api.Token{a, b})
		}
	}
	all = append(all, []api.Token{left(), symbol("a"), right()}, []api.Token{left(), symbol("b"), right()}, []api.Token{left(), symbol("a"), right(), right()})
	for i, a := range all {
		for k, b := range all {
			if lex.Same(a, slices.Clone(b)) != (i == k) {
				t.Errorf("P8.2: Same(%v, %v): %t", a, b, i != k)
			}
		}
	}
}

// checkRead prints words, and reads them again.
func checkRead(t *testing.T, l []api.Token) {
	t.Helper()
	s := lex.Print(l)
	got, n, e := lex.Words(s)
	if !slices.Equal(got, l) || !lex.Same(l, got) || n != len(s) || e != api.OK {
		t.Fatalf("P8.3: %v, printed %s, read %v, %d, %v", l, brief(s), got, n, e)
	}
	if again := lex.Print(got); again != s {
		t.Fatalf("P8.3: %s, read and printed %s", brief(s), brief(again))
	}
}

func TestPrintedIsRead(t *testing.T) {
	r := rand.New(rand.NewSource(2))
	checkRead(t, nil)
	checkRead(t, []api.Token{symbol(most), key(most), number("0"), number(strings.Repeat("9", 3000))})
	checkRead(t, slices.Repeat([]api.Token{left()}, api.MaxBytes/2))
	checkRead(t, []api.Token{number(strings.Repeat("1", api.MaxBytes))})
	for range 5000 {
		checkRead(t, someWords(r, 40))
	}
}

// TestReadIsPrinted prints what was read of texts that are spelt in any way.
func TestReadIsPrinted(t *testing.T) {
	r := rand.New(rand.NewSource(3))
	for i := range 5000 {
		l := someWords(r, 30)
		s := spelt(r, l)
		if i%2 > 0 {
			s = someText(r, 6)
		}
		got, _, e := lex.Words(s)
		if i%2 == 0 && (e != api.OK || !lex.Same(got, l)) {
			t.Fatalf("P8.1: Words(%s): %v, %v, not %v", brief(s), got, e, l)
		}
		checkRead(t, got)
	}
}
