package sort_test

import (
	"strings"
	"testing"

	"mullion/api"
	"mullion/sort"
)

func TestReserved(t *testing.T) {
	for s := range operators {
		if !sort.Reserved(s) {
			t.Errorf("P11.1: %s isn't Reserved", s)
		}
	}
	for _, s := range append([]string{"!", "!x", "!0", "!!", "! x", "!\x00", "!é", "!" + strings.Repeat("a", 5000)}, others...) {
		if !sort.Reserved(s) {
			t.Errorf("P11.1: %s isn't Reserved", brief(s))
		}
	}
	for _, s := range []string{
		"", " ", "x", "Not", "AND", "True", "int", "bool", "int5", "Int5", "lets", "le", "no", "nota", "not ", " not", "x!", " !", "==", "<>", "=<", "--", "++", "/", "*5", "**", "~", "if", "assert", "check-sat",
		"0", "5", "-5", ":true", "(not)", "true false", "abs\n", "true\x00", most, strings.Repeat("a", 5000) + "!",
	} {
		if sort.Reserved(s) {
			t.Errorf("P11.1: %s is Reserved", brief(s))
		}
	}
}

func checkSort(t *testing.T, of string, in api.Tree, want int) {
	t.Helper()
	wantE := api.OK
	if want == 0 {
		wantE = api.ErrForm
	}
	if got, e := sort.Sort(in); got != want || e != wantE {
		t.Errorf("P11.1: Sort of %s: %d, %v, not %d, %v", brief(of), got, e, want, wantE)
	}
}

func TestSort(t *testing.T) {
	for s, want := range map[string]int{
		"Int": api.SInt, "Bool": api.SBool, "int": 0, "bool": 0, "BOOL": 0, "Int5": 0, "In": 0, "Bool!": 0, "x": 0, "5": 0, "true": 0, "let": 0, "not": 0,
		"()": 0, "(Int)": 0, "(Bool)": 0, "(Int Int)": 0, "((Int))": 0, ":Int": 0, ":Bool": 0,
	} {
		checkSort(t, s, read(t, s), want)
	}
	for _, text := range []string{"Int", "Bool"} {
		tok := api.Token{Kind: api.TSymbol, Text: text}
		for _, kind := range []int{0, -1, api.TLeft, api.TRight, api.TNumber, api.TKey, 6, 99} {
			checkSort(t, text+" of another Kind", leaf(kind, text), 0)
		}
		for of, in := range map[string]api.Tree{
			" with Kids": {Tok: tok, Kids: []api.Tree{symbol("x")}}, " with itself": {Tok: tok, Kids: []api.Tree{{Tok: tok}}}, " as a List": {List: true, Tok: tok},
			" as a List with Kids": {List: true, Tok: tok, Kids: []api.Tree{{Tok: tok}}}, " as a nested one": within(nested, symbol(text)),
		} {
			checkSort(t, text+of, in, 0)
		}
	}
	for of, in := range map[string]api.Tree{"nothing": {}, "no Text": symbol(""), "blanks": symbol("Int "), "another": symbol(" Bool"), "two": symbol("Int Bool"), "bytes": symbol("Int\x00"), "many": symbol(strings.Repeat("Int", 5000))} {
		checkSort(t, of, in, 0)
	}
	checkSort(t, "Int, its Kids empty", api.Tree{Tok: api.Token{Kind: api.TSymbol, Text: "Int"}, Kids: []api.Tree{}}, api.SInt)
}
