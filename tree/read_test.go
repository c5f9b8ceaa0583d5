package tree_test

import (
	"math"
	"math/rand"
	"slices"
	"strings"
	"testing"

	"mullion/api"
	"mullion/lex"
	"mullion/tree"
)

// checkRead holds all that Read answers against the trees that it is to.
func checkRead(t *testing.T, of string, l []api.Token, want ...api.Tree) {
	t.Helper()
	got, n, e := tree.Read(l)
	if outlines(got) != outlines(want) || n != len(l) || e != api.OK {
		t.Errorf("P9.2: Read(%s): %s, %d, %v, not %s, %d", of, outlines(got), n, e, outlines(want), len(l))
	}
}

func checkFault(t *testing.T, of string, l []api.Token, where int, want api.Errno) {
	t.Helper()
	got, n, e := tree.Read(l)
	if len(got) > 0 || n != where || e != want {
		t.Errorf("P9.2: Read(%s): %d trees, %d, %v, not %d, %v", of, len(got), n, e, where, want)
	}
}

func TestRead(t *testing.T) {
	a, b, c := symbol("a"), symbol("b"), symbol("c")
	checkRead(t, "nil", nil)
	for s, want := range map[string][]api.Tree{
		"":                       nil,
		"a":                      {a},
		"120":                    {number("120")},
		":k":                     {key("k")},
		"a b c":                  {a, b, c},
		"()":                     {list()},
		"()()":                   {list(), list()},
		"(a)":                    {list(a)},
		"(())":                   {list(list())},
		"(a (b))":                {list(a, list(b))},
		"((a) b)":                {list(list(a), b)},
		"((a) (b) c)":            {list(list(a), list(b), c)},
		"(((a)))":                {list(list(list(a)))},
		"a (b) c":                {a, list(b), c},
		"(a b) c (()) ()":        {list(a, b), c, list(list()), list()},
		"(a (b (c) b) a) a":      {list(a, list(b, list(c), b), a), a},
		"(() a ((b)) (c ())) :k": {list(list(), a, list(list(b)), list(c, list())), key("k")},
		"(- 5) (:k 0)":           {list(symbol("-"), number("5")), list(key("k"), number("0"))},
	} {
		checkRead(t, s, words(t, s), want...)
	}
}

// TestReadAnyText: no Text is held against what a script may have; that of a
// parenthesis isn't told.
func TestReadAnyText(t *testing.T) {
	for _, text := range []string{"", "a b", "05", "(", ")", ":k", "é\xff", strings.Repeat("a", 5000)} {
		l := []api.Token{token(api.TLeft, text), token(api.TSymbol, text), token(api.TNumber, text), token(api.TKey, text), token(api.TRight, text), token(api.TSymbol, text)}
		checkRead(t, "any Text", l, list(symbol(text), number(text), key(text)), symbol(text))
	}
}

func TestReadNoKind(t *testing.T) {
	for _, kind := range []int{0, -1, 6, 7, 99, math.MaxInt, math.MinInt} {
		none := token(kind, "a")
		for of, ahead := range map[string][]api.Token{
			"nothing": nil, "a": symbols(1), "(": lefts(1), "(a": words(t, "(a"), "(a) b": words(t, "(a) b"),
			"as deep as may be":    lefts(api.MaxDeep),
			"as many as may be":    slices.Concat(lefts(1), symbols(api.MaxNodes-1)),
			"a tree of many ahead": slices.Concat(lefts(1), symbols(api.MaxNodes-1), rights(1)),
		} {
			checkFault(t, of, append(slices.Clone(ahead), none), len(ahead), api.ErrForm)
			checkFault(t, of, append(slices.Clone(ahead), none, none, right(), right(), right()), len(ahead), api.ErrForm)
		}
	}
}

func TestReadTooManyRights(t *testing.T) {
	for s, where := range map[string]int{
		")": 0, "))": 0, ")(": 0, ") a": 0, "a )": 1, "())": 2, "(a))": 3, "a () ) (": 3, "((a) b) c) (d": 7, "(a) (b)) (": 6,
	} {
		checkFault(t, s, words(t, s), where, api.ErrForm)
	}
	full := slices.Concat(lefts(1), symbols(api.MaxNodes-1), rights(1))
	checkFault(t, "behind as many as may be", append(full, right()), len(full), api.ErrForm)
	deep := slices.Concat(lefts(api.MaxDeep), rights(api.MaxDeep+1))
	checkFault(t, "behind as deep as may be", deep, 2*api.MaxDeep, api.ErrForm)
}

func TestReadShort(t *testing.T) {
	for _, s := range []string{"(", "((", "(a", "a (b", "((a)", "() (", "(a) ((b) c", "(()"} {
		checkFault(t, s, words(t, s), len(words(t, s)), api.ErrShort)
	}
	checkFault(t, "as deep as may be", lefts(api.MaxDeep), api.MaxDeep, api.ErrShort)
	checkFault(t, "as deep as may be, one lacks", slices.Concat(lefts(api.MaxDeep), rights(api.MaxDeep-1)), 2*api.MaxDeep-1, api.ErrShort)
	checkFault(t, "as many as may be", slices.Concat(lefts(1), symbols(api.MaxNodes-1)), api.MaxNodes, api.ErrShort)
}

// TestReadDeep takes Lists as deep as may be, and deeper ones.
func TestReadDeep(t *testing.T) {
	const n = api.MaxDeep
	deep := slices.Concat(lefts(n), rights(n))
	checkRead(t, "n deep", deep, within(n-1, list()))
	checkRead(t, "n deep, a word within", slices.Concat(lefts(n), symbols(1), rights(n)), within(n, symbol("a")))
	checkRead(t, "n deep, twice", slices.Concat(deep, deep), within(n-1, list()), within(n-1, list()))
	twice := list(within(n-2, list()), within(n-2, list()))
	checkRead(t, "n deep, twice in a List", slices.Concat(lefts(n), rights(n-1), lefts(n-1), rights(n)), twice)

	checkFault(t, "n+1 deep", slices.Concat(lefts(n+1), rights(n+1)), n, api.ErrDeep)
	checkFault(t, "n+1 open", lefts(n+1), n, api.ErrDeep)
	checkFault(t, "as many open as can be", lefts(nested), n, api.ErrDeep)
	checkFault(t, "n+1 deep behind others", slices.Concat(symbols(5), deep, lefts(n+1)), 5+2*n+n, api.ErrDeep)
	checkFault(t, "n+1 deep behind a List", slices.Concat(lefts(n), rights(1), lefts(2)), n+2, api.ErrDeep)
	checkFault(t, "n+1 deep behind words", slices.Concat(lefts(n), symbols(9), lefts(1)), n+9, api.ErrDeep)
}

// TestReadMany takes trees of as many nodes as may be, and of more.
func TestReadMany(t *testing.T) {
	const n = api.MaxNodes
	full := slices.Concat(lefts(1), symbols(n-1))
	closed := append(slices.Clone(full), right())
	checkRead(t, "n nodes", closed, wide(n-1))
	checkRead(t, "n nodes, twice", slices.Concat(closed, closed), wide(n-1), wide(n-1))
	checkRead(t, "n nodes among words", slices.Concat(symbols(n), closed, symbols(n+1)), slices.Concat(wide(n).Kids, []api.Tree{wide(n - 1)}, wide(n+1).Kids)...)
	checkRead(t, "n nodes, Lists", slices.Concat(lefts(1), slices.Repeat(words(t, "()"), n-1), rights(1)), list(slices.Repeat([]api.Tree{list()}, n-1)...))
	checkRead(t, "many small trees", slices.Repeat(words(t, "(a) ()"), n), slices.Repeat([]api.Tree{wide(1), list()}, n)...)

	for i, word := range []api.Token{left(), token(api.TNumber, "5"), token(api.TSymbol, "a"), token(api.TKey, "k")} {
		for _, behind := range [][]api.Token{nil, rights(1), rights(2), symbols(3), lefts(1), {{}}} {
			checkFault(t, "n+1 nodes", slices.Concat(full, []api.Token{word}, behind), n, api.ErrLarge)
			checkFault(t, "n+1 nodes behind a tree", slices.Concat(closed, full, []api.Token{word}, behind), 2*n+1, api.ErrLarge)
			checkFault(t, "n+1 nodes behind words", slices.Concat(symbols(i), full, []api.Token{word}, behind), n+i, api.ErrLarge)
		}
	}
	nodes := slices.Concat(lefts(1), slices.Repeat(words(t, "(a)"), n/2-1), symbols(1))
	checkRead(t, "n nodes, half of them Lists", append(slices.Clone(nodes), right()), list(append(slices.Repeat([]api.Tree{wide(1)}, n/2-1), symbol("a"))...))
	checkFault(t, "n+1 nodes, half of them Lists", append(slices.Clone(nodes), left()), len(nodes), api.ErrLarge)
	checkFault(t, "100000 words in a List", slices.Concat(lefts(1), symbols(100000), rights(1)), n, api.ErrLarge)
}

// TestReadFirst takes lists of several errors: the first word counts, and of
// one word the error that is named first.
func TestReadFirst(t *testing.T) {
	const deep, many = api.MaxDeep, api.MaxNodes
	both := slices.Concat(lefts(deep), symbols(many-deep))
	checkFault(t, "too deep and too many", append(slices.Clone(both), left()), many, api.ErrDeep)
	checkFault(t, "a word too many, too deep behind it", append(slices.Clone(both), symbols(1)[0], left()), many, api.ErrLarge)
	checkFault(t, "no Kind and too many", append(slices.Clone(both), api.Token{}, left()), many, api.ErrForm)
	checkFault(t, "too many, where there is room below", append(slices.Clone(both), right(), left()), many+1, api.ErrLarge)
	checkRead(t, "as deep and as many as may be", append(slices.Clone(both), rights(deep)...), within(deep-1, wide(many-deep)))
	checkFault(t, "a TRight ahead of no Kind", []api.Token{right(), {}}, 0, api.ErrForm)
	checkFault(t, "one lacks ahead of no Kind", []api.Token{left(), {}}, 1, api.ErrForm)
	checkFault(t, "one lacks ahead of one too many", words(t, "(a)) (b"), 3, api.ErrForm)
}

// standing tells of the words ahead how many Lists are open behind them, and
// how many nodes the tree has that isn't whole yet.
func standing(ahead []api.Token) (int, int) {
	open, nodes := 0, 0
	for _, word := range ahead {
		switch word.Kind {
		case api.TLeft:
			open, nodes = open+1, nodes+1
		case api.TRight:
			open--
		default:
			nodes++
		}
		if open == 0 {
			nodes = 0
		}
	}
	return open, nodes
}

// faulty tells where the first error of l lies, and which it is, by the
// document's rules, each word by all those ahead of it.
func faulty(l []api.Token) (int, api.Errno) {
	for i, word := range l {
		open, nodes := standing(l[:i])
		known := slices.Contains([]int{api.TLeft, api.TRight, api.TNumber, api.TSymbol, api.TKey}, word.Kind)
		switch {
		case !known || word.Kind == api.TRight && open == 0:
			return i, api.ErrForm
		case word.Kind == api.TLeft && open >= 60:
			return i, api.ErrDeep
		case word.Kind != api.TRight && nodes+1 > 400:
			return i, api.ErrLarge
		}
	}
	if open, _ := standing(l); open > 0 {
		return len(l), api.ErrShort
	}
	return len(l), api.OK
}

// parsed gives the trees of words without an error: the first one, then those
// of what is behind it.
func parsed(l []api.Token) []api.Tree {
	if len(l) == 0 {
		return nil
	}
	size := 1
	for open, _ := standing(l[:size]); open > 0; open, _ = standing(l[:size]) {
		size++
	}
	first := api.Tree{Tok: l[0]}
	if l[0].Kind == api.TLeft {
		first = list(parsed(l[1 : size-1])...)
	}
	return append([]api.Tree{first}, parsed(l[size:])...)
}

// TestAsTheRulesSay holds Read against the rules for words of all kinds.
func TestAsTheRulesSay(t *testing.T) {
	r := rand.New(rand.NewSource(4))
	times := map[api.Errno]int{}
	for i := range 20000 {
		var l []api.Token
		for range r.Intn(2 + i%15) {
			l = append(l, someToken(r))
		}
		if i%4 == 0 {
			open, _ := standing(l)
			l = append(l, rights(max(open, 0))...)
		}
		where, want := faulty(l)
		times[want]++
		if want == api.OK {
			checkRead(t, lex.Print(l), l, parsed(l)...)
		} else {
			checkFault(t, lex.Print(l), l, where, want)
		}
		if t.Failed() {
			return
		}
	}
	if times[api.OK] < 2000 || times[api.ErrForm] < 2000 || times[api.ErrShort] < 2000 {
		t.Errorf("P9.2: only so many were read, refused: %v", times)
	}
}

// TestNearTheLimits holds Read against the rules for words by the hundred,
// where Lists are opened oftener than shut, or words come in numbers.
func TestNearTheLimits(t *testing.T) {
	r := rand.New(rand.NewSource(5))
	times := map[api.Errno]int{}
	for i := range 150 {
		var l []api.Token
		for range 200 + r.Intn(400) {
			switch roll := r.Intn(10); {
			case i%2 == 0 && roll < 5, roll < 3:
				l = append(l, left())
			case i%2 == 0 && roll < 8, roll < 5:
				if open, _ := standing(l); open > 1 {
					l = append(l, right())
				}
			default:
				l = append(l, symbols(1)...)
			}
		}
		open, _ := standing(l)
		l = append(l, rights(open)...)
		where, want := faulty(l)
		times[want]++
		if want == api.OK {
			checkRead(t, "many words", l, parsed(l)...)
		} else {
			checkFault(t, "many words", l, where, want)
		}
	}
	if times[api.ErrDeep] < 10 || times[api.ErrLarge] < 10 {
		t.Errorf("P9.2: only so many were read, refused: %v", times)
	}
}

// TestShortOnes goes through all rows of up to six words.
func TestShortOnes(t *testing.T) {
	all := []api.Token{left(), right(), token(api.TSymbol, "a"), token(api.TNumber, "5"), {Kind: 6}}
	rows := [][]api.Token{nil}
	for size := 0; size <= 6; size++ {
		var longer [][]api.Token
		for _, l := range rows {
			where, want := faulty(l)
			if want == api.OK {
				checkRead(t, lex.Print(l), l, parsed(l)...)
			} else {
				checkFault(t, lex.Print(l), l, where, want)
			}
			for _, word := range all {
				longer = append(longer, append(slices.Clone(l), word))
			}
		}
		rows = longer
	}
}

// TestToldIsRead reads what Words tells, and what is printed of it: one tree,
// and several one behind the other.
func TestToldIsRead(t *testing.T) {
	r := rand.New(rand.NewSource(6))
	trees := []api.Tree{list(), symbol("a"), wide(api.MaxNodes - 1), within(api.MaxDeep, key("k")), within(api.MaxDeep-1, wide(api.MaxNodes-api.MaxDeep))}
	for range 1000 {
		if in := someTree(r, 5); tree.Count(in) <= api.MaxNodes {
			trees = append(trees, in)
		}
	}
	var all []api.Token
	for _, in := range trees {
		if !tree.Is(in) {
			t.Errorf("P9.3: %s is none", outline(in))
		}
		told := tree.Words(in)
		got, n, e := tree.Read(told)
		if len(got) != 1 || !tree.Same(got[0], in) || outlines(got) != outlines([]api.Tree{in}) || n != len(told) || e != api.OK {
			t.Errorf("P9.3: %s: %s, %d, %v", outline(in), outlines(got), n, e)
		}
		if text := lex.Print(told); len(text) <= api.MaxBytes {
			checkRead(t, text, words(t, text), in)
		}
		all = append(all, told...)
	}
	checkRead(t, "all of them", all, trees...)
}

// TestReadIsTold: whatever is read is a tree where a script has its words, and
// tells the words that it is read of.
func TestReadIsTold(t *testing.T) {
	r := rand.New(rand.NewSource(7))
	for range 2000 {
		var script []api.Token
		for range r.Intn(6) {
			script = append(script, tree.Words(someTree(r, 4))...)
		}
		got, _, e := tree.Read(script)
		var told []api.Token
		for _, one := range got {
			if !tree.Is(one) {
				t.Fatalf("P9.3: %s is none", outline(one))
			}
			told = append(told, tree.Words(one)...)
		}
		if e == api.OK && !slices.Equal(told, script) {
			t.Fatalf("P9.3: %s is told as %s", lex.Print(script), lex.Print(told))
		}
	}
}
