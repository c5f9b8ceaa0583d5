package tree_test

import (
	"math"
	"math/rand"
	"slices"
	"strings"
	"testing"

	"mullion/api"
	"mullion/lex"
	"mullion/tree"
)

// checkTree holds what Is, Count and Deep tell of t against what they are to.
func checkTree(t *testing.T, of string, in api.Tree, is bool, count, deep int) {
	t.Helper()
	if got := tree.Is(in); got != is {
		t.Errorf("P9.1: Is of %s: %t", of, got)
	}
	if got := tree.Count(in); got != count {
		t.Errorf("P9.1: Count of %s: %d, not %d", of, got, count)
	}
	if got := tree.Deep(in); got != deep {
		t.Errorf("P9.1: Deep of %s: %d, not %d", of, got, deep)
	}
}

func TestTrees(t *testing.T) {
	a := symbol("a")
	for of, c := range map[string]struct {
		t           api.Tree
		count, deep int
	}{
		"a":                 {a, 1, 0},
		"5":                 {number("5"), 1, 0},
		":k":                {key("k"), 1, 0},
		"()":                {list(), 1, 1},
		"() of no nil list": {api.Tree{List: true, Kids: []api.Tree{}}, 1, 1},
		"a of no nil list":  {api.Tree{Tok: a.Tok, Kids: []api.Tree{}}, 1, 0},
		"(a)":               {list(a), 2, 1},
		"(())":              {list(list()), 2, 2},
		"(a (b))":           {list(a, list(symbol("b"))), 4, 2},
		"((a) (((b))) c)":   {list(list(a), list(list(list(symbol("b")))), symbol("c")), 8, 4},
		"(a () :k 5 (0))":   {list(a, list(), key("k"), number("5"), list(number("0"))), 7, 2},
	} {
		checkTree(t, of, c.t, true, c.count, c.deep)
	}
}

// TestMostNodes takes trees of as many nodes as may be, and of more.
func TestMostNodes(t *testing.T) {
	const n = api.MaxNodes
	hundred := wide(99)
	checkTree(t, "n-1 nodes", wide(n-2), true, n-1, 1)
	checkTree(t, "n nodes", wide(n-1), true, n, 1)
	checkTree(t, "n+1 nodes", wide(n), false, n+1, 1)
	checkTree(t, "n+2 nodes", wide(n+1), false, n+1, 1)
	checkTree(t, "100000 nodes", wide(99999), false, n+1, 1)
	checkTree(t, "n nodes, below one another", list(hundred, hundred, hundred, wide(98)), true, n, 2)
	checkTree(t, "n+1 nodes, below one another", list(hundred, hundred, hundred, hundred), false, n+1, 2)
	checkTree(t, "n+1 nodes, the last ones deep", list(wide(n-4), within(2, symbol("a"))), false, n+1, 3)
	checkTree(t, "n nodes, the last ones deep", list(wide(n-5), within(2, symbol("a"))), true, n, 3)
	checkTree(t, "n Lists", list(slices.Repeat([]api.Tree{list()}, n-1)...), true, n, 2)
	checkTree(t, "n+1 Lists", list(slices.Repeat([]api.Tree{list()}, n)...), false, n+1, 2)
	doubled := symbol("a")
	for range 20 {
		doubled = list(doubled, doubled)
	}
	checkTree(t, "2^20 words", doubled, false, n+1, 20)
}

// TestDeepest takes trees as deep as may be, and deeper ones.
func TestDeepest(t *testing.T) {
	const n = api.MaxDeep
	a := symbol("a")
	checkTree(t, "n-1 deep", within(n-1, a), true, n, n-1)
	checkTree(t, "n deep", within(n, a), true, n+1, n)
	checkTree(t, "n deep, () within", within(n-1, list()), true, n, n)
	checkTree(t, "n+1 deep", within(n+1, a), false, n+2, n+1)
	checkTree(t, "n+1 deep, () within", within(n, list()), false, n+1, n+1)
	checkTree(t, "n+2 deep", within(n+2, a), false, n+3, n+1)
	checkTree(t, "n deep, the last kid", list(a, list(), within(n-1, a)), true, n+3, n)
	checkTree(t, "n deep, the first kid", list(within(n-1, a), list(), a), true, n+3, n)
	checkTree(t, "n+1 deep, a middle kid", list(a, within(n, a), list()), false, n+4, n+1)
	checkTree(t, "n+1 deep, twice", list(within(n, a), within(n+9, a)), false, 2*n+12, n+1)
	checkTree(t, "too many, too deep", within(n, wide(api.MaxNodes)), false, api.MaxNodes+1, n+1)
	checkTree(t, "as deep as can be", within(nested, a), false, api.MaxNodes+1, n+1)
	checkTree(t, "as deep as can be, behind many", list(wide(api.MaxNodes), within(nested, a)), false, api.MaxNodes+1, n+1)
}

// TestNoTrees takes what no script has: alone, and deep in a List.
func TestNoTrees(t *testing.T) {
	a := symbol("a")
	for of, c := range map[string]struct {
		t           api.Tree
		count, deep int
	}{
		"nothing":             {api.Tree{}, 1, 0},
		"a List of a Text":    {api.Tree{List: true, Tok: api.Token{Text: "a"}}, 1, 1},
		"a List of a Kind":    {api.Tree{List: true, Tok: api.Token{Kind: api.TSymbol}}, 1, 1},
		"a List of TLeft":     {api.Tree{List: true, Tok: left()}, 1, 1},
		"a List of a word":    {api.Tree{List: true, Tok: a.Tok, Kids: []api.Tree{a}}, 2, 1},
		"a word of Kids":      {api.Tree{Tok: a.Tok, Kids: []api.Tree{a}}, 2, 0},
		"a word of Lists":     {api.Tree{Tok: a.Tok, Kids: []api.Tree{list(), list(list(a))}}, 5, 0},
		"Kids of no List":     {api.Tree{Kids: []api.Tree{a, a}}, 3, 0},
		"a List of the like":  {list(a, api.Tree{Kids: []api.Tree{list(list())}}), 5, 1},
		"a List of nothing":   {list(api.Tree{}), 2, 1},
		"a well kid, another": {list(a, symbol("a b")), 3, 1},
		"another, a well kid": {list(symbol("5"), a), 3, 1},
	} {
		checkTree(t, of, c.t, false, c.count, c.deep)
		checkTree(t, of+", in Lists", list(a, list(c.t), a), false, c.count+4, c.deep+2)
	}
}

// TestLeaves takes each Kind with each Text.
func TestLeaves(t *testing.T) {
	long, longer := strings.Repeat("1", api.MaxBytes), strings.Repeat("1", api.MaxBytes+1)
	kinds := map[string]int{
		"0": api.TNumber, "5": api.TNumber, "120": api.TNumber, long: api.TNumber,
		"x": api.TSymbol, "<=": api.TSymbol, "-5": api.TSymbol, "!k": api.TSymbol, "true": api.TSymbol, most: api.TSymbol,
	}
	none := []string{
		"", " ", "05", "00", "5a", "a b", " a", "a ", "\ta", "a\n", "5 ", " 5", "5 5", ";", "a;", ";\na", "5;b",
		"(", ")", "()", "(a)", "a)", "(a", ":", ":k", "::k", ":5", "k:", "a:b", "12:b", "[", "é", "\xff", "a\x00",
		most + "0", longer, strings.Repeat("a", 5000), strings.Repeat(" ", 5000) + "a",
	}
	for _, text := range none {
		kinds[text] = 0
	}
	for text, of := range kinds {
		for _, kind := range []int{math.MinInt, -1, 0, api.TLeft, api.TRight, api.TNumber, api.TSymbol, api.TKey, 6, math.MaxInt} {
			well := of != 0 && (kind == of || kind == api.TKey && of == api.TSymbol)
			in := leaf(kind, text)
			name := "Kind, Text " + outline(leaf(0, text[:min(len(text), 30)]))
			checkTree(t, name, in, well, 1, 0)
			checkTree(t, "a List of "+name, list(list(), in), well, 3, 2)
		}
	}
}

// told gives what a tree has and how deep it is, without the program.
func told(in api.Tree) (int, int) {
	count, deep := 1, 0
	for _, kid := range in.Kids {
		nodes, lists := told(kid)
		count, deep = count+nodes, max(deep, lists)
	}
	if !in.List {
		return count, 0
	}
	return count, deep + 1
}

// well tells whether what untidy gives is a tree, however many nodes it has. It
// knows only the Texts of someToken.
func well(in api.Tree) bool {
	text := in.Tok.Text
	name := text == "a" || text == most
	switch {
	case in.List:
		return in.Tok == api.Token{} && !slices.ContainsFunc(in.Kids, func(kid api.Tree) bool { return !well(kid) })
	case len(in.Kids) > 0:
		return false
	case in.Tok.Kind == api.TNumber:
		return text == "5"
	}
	return name && (in.Tok.Kind == api.TSymbol || in.Tok.Kind == api.TKey)
}

func TestSomeTrees(t *testing.T) {
	r := rand.New(rand.NewSource(1))
	trees := 0
	for range 3000 {
		in := untidy(r, 5)
		count, deep := told(in)
		is := well(in) && count <= 400
		checkTree(t, outline(in), in, is, min(count, 401), deep)
		if is {
			trees++
		}
		in = someTree(r, 5)
		count, deep = told(in)
		checkTree(t, outline(in), in, count <= 400, min(count, 401), deep)
	}
	if trees < 100 || trees > 2900 {
		t.Errorf("P9.1: %d of 3000 were trees", trees)
	}
}

func TestWords(t *testing.T) {
	a, b := symbol("a"), symbol("b")
	for want, in := range map[string]api.Tree{
		"a":                     a,
		"120":                   number("120"),
		":k":                    key("k"),
		"( )":                   list(),
		"( a )":                 list(a),
		"( ( ) )":               list(list()),
		"( a ( b ) )":           list(a, list(b)),
		"( ( a ) b )":           list(list(a), b),
		"( ( ) a ( ( b ) ) 5 )": list(list(), a, list(list(b)), number("5")),
		"( := :k ( 0 ) ( ) b )": list(key("="), key("k"), list(number("0")), list(), b),
	} {
		got := tree.Words(in)
		if lex.Print(got) != want || !slices.Equal(got, words(t, want)) {
			t.Errorf("P9.1: Words of %s: %v", want, got)
		}
	}
}

// TestWordsOfAny takes trees past the limits, and what is none: a List has
// parentheses, whatever its Tok is; what isn't one is its Tok.
func TestWordsOfAny(t *testing.T) {
	for of, c := range map[string]struct {
		t    api.Tree
		want []api.Token
	}{
		"nothing":           {api.Tree{}, []api.Token{{}}},
		"no such Kind":      {leaf(9, "w"), []api.Token{{Kind: 9, Text: "w"}}},
		"no such Text":      {list(symbol("a b"), number("")), []api.Token{left(), token(api.TSymbol, "a b"), token(api.TNumber, ""), right()}},
		"a List with a Tok": {api.Tree{List: true, Tok: token(api.TSymbol, "a"), Kids: []api.Tree{symbol("b")}}, []api.Token{left(), token(api.TSymbol, "b"), right()}},
		"a word with Kids":  {list(api.Tree{Tok: token(api.TSymbol, "a"), Kids: []api.Tree{symbol("b")}}), []api.Token{left(), token(api.TSymbol, "a"), right()}},
		"many":              {wide(9999), slices.Concat(lefts(1), symbols(9999), rights(1))},
		"deep":              {within(nested, symbol("a")), slices.Concat(lefts(nested), symbols(1), rights(nested))},
	} {
		if got := tree.Words(c.t); !slices.Equal(got, c.want) {
			t.Errorf("P9.1: Words of %s: %d words", of, len(got))
		}
	}
}

func TestSame(t *testing.T) {
	a, b := symbol("a"), symbol("b")
	all := []api.Tree{
		{}, a, b, symbol("A"), symbol("aa"), symbol(""), number("5"), symbol("5"), key("5"), key("a"), leaf(9, "a"), leaf(-1, "a"), {Tok: left()},
		list(), list(a), list(b), list(a, a), list(a, b), list(b, a), list(list()), list(list(a)), list(list(a), b), list(a, list(b)), list(list(a, b)),
		list(list(), list()), list(api.Tree{}), list(a, api.Tree{}), list(list(list())), list(a, b, list()), list(list(), a, b),
		{List: true, Tok: a.Tok}, {List: true, Tok: left()}, {List: true, Tok: a.Tok, Kids: []api.Tree{a}}, {Tok: a.Tok, Kids: []api.Tree{a}}, {Kids: []api.Tree{a}},
		wide(399), wide(400), wide(401), within(60, a), within(61, a), within(61, b), within(nested, a), within(nested, b), within(nested+1, a),
	}
	for i, one := range all {
		for j, other := range all {
			if tree.Same(one, other) != (i == j) {
				t.Errorf("P9.1: Same of row %d, row %d: %t", i, j, i != j)
			}
		}
	}
}

// TestSameOfNothing: a nil list and an empty one are the same, and it matters
// not where a list lies.
func TestSameOfNothing(t *testing.T) {
	a := symbol("a")
	empty := []api.Tree{}
	for i, c := range [][2]api.Tree{
		{list(), {List: true, Kids: empty}},
		{a, {Tok: a.Tok, Kids: empty}},
		{list(a, list()), list(api.Tree{Tok: a.Tok, Kids: empty}, api.Tree{List: true, Kids: empty})},
		{list(a), {List: true, Kids: []api.Tree{a, symbol("b")}[:1]}},
		{list(a, a), {List: true, Kids: append(make([]api.Tree, 0, 9), a, a)}},
	} {
		if !tree.Same(c[0], c[1]) || !tree.Same(c[1], c[0]) {
			t.Errorf("P9.1: row %d isn't the same", i)
		}
	}
}

func TestSameOfSome(t *testing.T) {
	r := rand.New(rand.NewSource(2))
	for range 2000 {
		one, other := untidy(r, 2), untidy(r, 2)
		if tree.Same(one, other) != (outline(one) == outline(other)) {
			t.Errorf("P9.1: Same of %s, %s: %t", outline(one), outline(other), tree.Same(one, other))
		}
		if !tree.Same(one, one) {
			t.Errorf("P9.1: %s isn't the same as itself", outline(one))
		}
	}
}
