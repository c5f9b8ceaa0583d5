package tree_test

import (
	"math/rand"
	"slices"
	"strings"
	"testing"

	"mullion/api"
	"mullion/lex"
)

const most = "abcdefghij0123456789" // as many bytes as a name may have

// nested: as deep as anything that is given may be.
const nested = 1 << 16

func left() api.Token { return api.Token{Kind: api.TLeft} }

func right() api.Token { return api.Token{Kind: api.TRight} }

func token(kind int, text string) api.Token { return api.Token{Kind: kind, Text: text} }

func leaf(kind int, text string) api.Tree { return api.Tree{Tok: token(kind, text)} }

func number(text string) api.Tree { return leaf(api.TNumber, text) }

func symbol(text string) api.Tree { return leaf(api.TSymbol, text) }

func key(text string) api.Tree { return leaf(api.TKey, text) }

func list(kids ...api.Tree) api.Tree { return api.Tree{List: true, Kids: kids} }

// wide gives a List of n symbols.
func wide(n int) api.Tree { return list(slices.Repeat([]api.Tree{symbol("a")}, n)...) }

// within gives t in n Lists, one in another.
func within(n int, t api.Tree) api.Tree {
	for range n {
		t = list(t)
	}
	return t
}

// words gives the words of a script.
func words(t *testing.T, s string) []api.Token {
	t.Helper()
	l, _, e := lex.Words(s)
	if e != api.OK {
		t.Fatalf("%s: %v", s, e)
	}
	return l
}

// lefts gives n parentheses.
func lefts(n int) []api.Token { return slices.Repeat([]api.Token{left()}, n) }

func rights(n int) []api.Token { return slices.Repeat([]api.Token{right()}, n) }

func symbols(n int) []api.Token { return slices.Repeat([]api.Token{token(api.TSymbol, "a")}, n) }

// outline tells all of a tree, as it stands.
func outline(t api.Tree) string {
	var out strings.Builder
	write(&out, t)
	return out.String()
}

func write(out *strings.Builder, t api.Tree) {
	if t.List {
		out.WriteString("L")
	}
	out.WriteString(string(rune('a' + t.Tok.Kind)))
	out.WriteString(t.Tok.Text)
	out.WriteString("[")
	for _, kid := range t.Kids {
		write(out, kid)
		out.WriteString(",")
	}
	out.WriteString("]")
}

func outlines(l []api.Tree) string { return outline(api.Tree{Kids: l}) }

// someLeaf gives a word that a script may have.
func someLeaf(r *rand.Rand) api.Tree {
	switch r.Intn(5) {
	case 0:
		return number([]string{"0", "7", "120", "999999999999"}[r.Intn(4)])
	case 1:
		return key([]string{"k", "status", most}[r.Intn(3)])
	}
	return symbol([]string{"a", "x1", "<=", "-5", "let", most}[r.Intn(6)])
}

// someTree gives a tree of at most n Lists in one another, 4 kids each.
func someTree(r *rand.Rand, n int) api.Tree {
	if n == 0 || r.Intn(4) == 0 {
		return someLeaf(r)
	}
	t := list()
	for range r.Intn(5) {
		t.Kids = append(t.Kids, someTree(r, n-1))
	}
	return t
}

// someKind gives Kinds that there are, and, seldom, others.
func someKind(r *rand.Rand) int {
	if r.Intn(60) == 0 {
		return []int{0, -1, 6, 99}[r.Intn(4)]
	}
	return []int{api.TLeft, api.TLeft, api.TRight, api.TRight, api.TNumber, api.TSymbol, api.TKey}[r.Intn(7)]
}

// someToken gives a word of any Kind and any Text: Read holds no Text against
// what a script may have.
func someToken(r *rand.Rand) api.Token {
	return token(someKind(r), []string{"", "a", "5", "05", "(", "a b", most}[r.Intn(7)])
}

// untidy gives what is a tree or not: Lists with a Tok, words with Kids, Kinds
// that there aren't.
func untidy(r *rand.Rand, n int) api.Tree {
	t := api.Tree{List: r.Intn(4) > 0}
	if !t.List || r.Intn(12) == 0 {
		t.Tok = someToken(r)
	}
	if n > 0 && (t.List || r.Intn(12) == 0) {
		for range r.Intn(4) {
			t.Kids = append(t.Kids, untidy(r, n-1))
		}
	}
	return t
}

// everything gives trees of all kinds, and what is none.
func everything() []api.Tree {
	r := rand.New(rand.NewSource(3))
	out := []api.Tree{{}, list(), symbol("a"), number("05"), within(60, symbol("a")), within(61, symbol("a")), wide(399), wide(400), {Kids: []api.Tree{list(list())}}}
	for range 150 {
		out = append(out, someTree(r, 4), untidy(r, 4))
	}
	return out
}
