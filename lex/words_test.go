package lex_test

import (
	"math/rand"
	"slices"
	"strconv"
	"strings"
	"testing"

	"mullion/api"
	"mullion/lex"
)

// brief tells a long text by its beginning.
func brief(s string) string {
	if len(s) > 60 {
		return strconv.Quote(s[:60]) + " .. (" + strconv.Itoa(len(s)) + " bytes)"
	}
	return strconv.Quote(s)
}

// checkWords holds all that Words answers against what it is to answer.
func checkWords(t *testing.T, s string, want []api.Token) {
	t.Helper()
	got, n, e := lex.Words(s)
	if !slices.Equal(got, want) || n != len(s) || e != api.OK {
		t.Errorf("P8.1: Words(%s): %v, %d, %v, not %v, %d", brief(s), got, n, e, want, len(s))
	}
}

func checkError(t *testing.T, s string, where int, want api.Errno) {
	t.Helper()
	got, n, e := lex.Words(s)
	if len(got) > 0 || n != where || e != want {
		t.Errorf("P8.1: Words(%s): %v, %d, %v, not %d, %v", brief(s), got, n, e, where, want)
	}
}

func TestWords(t *testing.T) {
	for _, c := range []struct {
		s    string
		want []api.Token
	}{
		{"a", []api.Token{symbol("a")}},
		{"0", []api.Token{number("0")}},
		{"7", []api.Token{number("7")}},
		{"1203", []api.Token{number("1203")}},
		{"(", []api.Token{left()}},
		{")", []api.Token{right()}},
		{":k", []api.Token{key("k")}},
		{"-5", []api.Token{symbol("-5")}},
		{"-0", []api.Token{symbol("-0")}},
		{"(x1)", []api.Token{left(), symbol("x1"), right()}},
		{"(- 5)", []api.Token{left(), symbol("-"), number("5"), right()}},
		{"(assert (<= (+ x 10) y))", []api.Token{left(), symbol("assert"), left(), symbol("<="), left(), symbol("+"), symbol("x"), number("10"), right(), symbol("y"), right(), right()}},
		{"(set-info :status sat)", []api.Token{left(), symbol("set-info"), key("status"), symbol("sat"), right()}},
		{"0 0 10", []api.Token{number("0"), number("0"), number("10")}},
		{"a5b6", []api.Token{symbol("a5b6")}},
		{":a5", []api.Token{key("a5")}},
		{":-", []api.Token{key("-")}},
		{"true Int !0 @9", []api.Token{symbol("true"), symbol("Int"), symbol("!0"), symbol("@9")}},
	} {
		checkWords(t, c.s, c.want)
	}
}

// TestNothingBetween sets words side by side that nothing has to part.
func TestNothingBetween(t *testing.T) {
	for s, want := range map[string][]api.Token{
		"()":     {left(), right()},
		")(":     {right(), left()},
		"((":     {left(), left()},
		"a(b)c":  {symbol("a"), left(), symbol("b"), right(), symbol("c")},
		"(0)1":   {left(), number("0"), right(), number("1")},
		"a:b":    {symbol("a"), key("b")},
		"12:b":   {number("12"), key("b")},
		"0:b":    {number("0"), key("b")},
		":a:b":   {key("a"), key("b")},
		":a(":    {key("a"), left()},
		"):a":    {right(), key("a")},
		"a;b\nc": {symbol("a"), symbol("c")},
		"0;b\n1": {number("0"), number("1")},
		":a;b\n": {key("a")},
	} {
		checkWords(t, s, want)
	}
}

func TestBlanks(t *testing.T) {
	for _, s := range []string{"", " ", "\t", "\n", "\r", "   ", "\r\n", " \t\r\n \n\r\t", strings.Repeat("\t\n", 900)} {
		checkWords(t, s, nil)
		checkWords(t, "a"+s, []api.Token{symbol("a")})
		checkWords(t, s+"17", []api.Token{number("17")})
		checkWords(t, s+":k"+s, []api.Token{key("k")})
		if s != "" {
			checkWords(t, "a"+s+"b", []api.Token{symbol("a"), symbol("b")})
			checkWords(t, "1"+s+"0"+s+"0", []api.Token{number("1"), number("0"), number("0")})
		}
	}
}

func TestRemarks(t *testing.T) {
	a, b := symbol("a"), symbol("b")
	for s, want := range map[string][]api.Token{
		";":                         nil,
		";;":                        nil,
		"; \r\t":                    nil,
		";\n":                       nil,
		";a":                        nil,
		";a\r":                      nil,
		";a\rb":                     nil, // byte 13 closes no remark
		";a\n;b":                    nil,
		";a\n;b\n":                  nil,
		" ;a\n\t;b\r\n ;c":          nil,
		";01 5a : [ é\xff\x00 \"|'": nil, // any bytes
		";a\nb":                     {b},
		";a\r\nb":                   {b},
		";;a\n\nb":                  {b},
		";a;\nb":                    {b},
		"a;":                        {a},
		"a;(b":                      {a},
		"a ;(b":                     {a},
		"a;)\nb":                    {a, b},
		"a;\nb;":                    {a, b},
		"a\n;b\n;b\nb ;a\n":         {a, b},
		"a;x\ry\nb":                 {a, b},
		"(;)\n)":                    {left(), right()},
	} {
		checkWords(t, s, want)
	}
	checkError(t, ";a\n[", 3, api.ErrByte)
	checkError(t, ";a\n ;b\n 01", 8, api.ErrByte)
	checkError(t, "a;\n5a", 3, api.ErrByte)
}

func TestIllFormed(t *testing.T) {
	for s, where := range map[string]int{
		"00":           0,
		"01":           0,
		"007":          0,
		"0000000000":   0,
		"1 00":         2,
		"(012)":        1,
		"a 01 02":      2, // the first one
		"01)":          0,
		"01;":          0,
		"5a":           0,
		"0a":           0,
		"01a":          0,
		"0x10":         0,
		"5-":           0,
		"1.5":          0,
		"(+ 12x 3)":    3,
		"a 1/2":        2,
		"12a3":         0,
		":":            0,
		": ":           0,
		"a :":          2,
		": a":          0,
		":(":           0,
		":)":           0,
		":;a\n":        0,
		":\n":          0,
		"::":           0,
		"::a":          0,
		"a::b":         1,
		":a:":          2,
		":5":           0,
		":0":           0,
		":5a":          0,
		"a :05":        2,
		"12:5":         2,
		":é":           0,
		"[":            0,
		"(a [":         3,
		"a[":           1,
		"12[":          2,
		"0]":           1,
		":a[":          2,
		"#b1":          0,
		"x #b1":        2,
		"\"b\"":        0,
		"a \"b c\"":    2,
		"|a b|":        0,
		"a|b|":         1,
		"{}":           0,
		"'a":           0,
		"`a":           0,
		"x,y":          1,
		"a\\":          1,
		"é":            0,
		"aé":           1,
		"5é":           1,
		"\xff":         0,
		"a \xff":       2,
		"\x00":         0,
		"x\x00":        1,
		"a\vb":         1, // bytes 11, 12 part nothing
		"a\fb":         1,
		"a\u00a0b":     1, // nor does a blank of two bytes
		"\ufeffa":      0,
		"[ 01":         0, // the first of two errors
		"01 [":         0,
		tooMany:        0,
		":" + tooMany:  0,
		"a " + tooMany: 2,
	} {
		checkError(t, s, where, api.ErrByte)
	}
}

// kinds gives for each byte the Kind of the word that it is alone: 0, if it is
// none; -1, if it stands between words.
func kinds() map[byte]int {
	out := map[byte]int{' ': -1, '\t': -1, '\n': -1, '\r': -1, ';': -1, '(': api.TLeft, ')': api.TRight}
	for b := byte('0'); b <= '9'; b++ {
		out[b] = api.TNumber
	}
	for _, b := range []byte(ofSymbols) {
		out[b] = api.TSymbol
	}
	return out
}

func TestEachByteAlone(t *testing.T) {
	all := kinds()
	if len(all) != 4+1+2+10+52+17 {
		t.Fatalf("%d bytes", len(all))
	}
	for i := range 256 {
		s := string([]byte{byte(i)})
		kind := all[byte(i)]
		switch {
		case kind == 0:
			checkError(t, s, 0, api.ErrByte)
			checkError(t, "a b "+s, 4, api.ErrByte)
		case kind < 0:
			checkWords(t, s, nil)
		case kind == api.TLeft || kind == api.TRight:
			checkWords(t, s, []api.Token{{Kind: kind}})
		default:
			checkWords(t, s, []api.Token{{Kind: kind, Text: s}})
		}
		if lex.Symbol(s) != (kind == api.TSymbol) {
			t.Errorf("P8.1: Symbol(%q): %t", s, lex.Symbol(s))
		}
	}
}

// TestEachByteBehind puts each byte right behind a symbol, a number, a colon:
// a symbol goes on with digits too, a number only with these.
func TestEachByteBehind(t *testing.T) {
	all := kinds()
	for i := range 256 {
		s := string([]byte{byte(i)})
		kind := all[byte(i)]
		if lex.Symbol("a"+s) != (kind == api.TSymbol || kind == api.TNumber) {
			t.Errorf("P8.1: Symbol(%q): %t", "a"+s, lex.Symbol("a"+s))
		}
		switch {
		case s == ":" || kind == 0:
			checkError(t, "a"+s, 1, api.ErrByte)
			checkError(t, "12"+s, 2, api.ErrByte)
			checkError(t, ":"+s, 0, api.ErrByte)
		case kind < 0:
			checkWords(t, "a"+s, []api.Token{symbol("a")})
			checkWords(t, "12"+s, []api.Token{number("12")})
			checkError(t, ":"+s, 0, api.ErrByte)
		case kind == api.TLeft || kind == api.TRight:
			checkWords(t, "a"+s, []api.Token{symbol("a"), {Kind: kind}})
			checkWords(t, "12"+s, []api.Token{number("12"), {Kind: kind}})
			checkError(t, ":"+s, 0, api.ErrByte)
		case kind == api.TNumber:
			checkWords(t, "a"+s, []api.Token{symbol("a" + s)})
			checkWords(t, "12"+s, []api.Token{number("12" + s)})
			checkError(t, "0"+s, 0, api.ErrByte)
			checkError(t, ":"+s, 0, api.ErrByte)
		case kind == api.TSymbol:
			checkWords(t, "a"+s, []api.Token{symbol("a" + s)})
			checkError(t, "12"+s, 0, api.ErrByte)
			checkError(t, "0"+s, 0, api.ErrByte)
			checkError(t, "a 5"+s, 2, api.ErrByte)
			checkWords(t, ":"+s, []api.Token{key(s)})
		}
	}
}

// TestNames takes names of each length up to MaxName, and longer ones.
func TestNames(t *testing.T) {
	for n := range 3 * api.MaxName {
		name := strings.Repeat("n9<", 20)[:n]
		well := n >= 1 && n <= api.MaxName
		if lex.Symbol(name) != well {
			t.Errorf("P8.1: Symbol of %d bytes: %t", n, !well)
		}
		if well {
			checkWords(t, name, []api.Token{symbol(name)})
			checkWords(t, "(:"+name+" "+name+")", []api.Token{left(), key(name), symbol(name), right()})
		} else if n > 0 {
			checkError(t, "("+name+")", 1, api.ErrByte)
			checkError(t, "a :"+name, 2, api.ErrByte)
		}
	}
	checkWords(t, most+":"+most, []api.Token{symbol(most), key(most)})
	checkError(t, "a "+tooMany+"[", 2, api.ErrByte)
}

func TestSymbol(t *testing.T) {
	for s, want := range map[string]bool{
		"": false, "a": true, "Z": true, "a5": true, "-5": true, "!0": true, "define-fun": true, ofSymbols[52:]: true, "~!@$%^&*_-+=<>.?/": true,
		"0": false, "5": false, "5a": false, "12": false, "a b": false, " a": false, "a ": false, "a\n": false, ":a": false, "a:": false, "a;": false, ";": false,
		"(": false, "a)": false, "é": false, "aé": false, "a\x00": false, "\xff": false, "a#": false, "a,b": false, "|a|": false,
		most: true, tooMany: false, strings.Repeat("-", 20): true, strings.Repeat("-", 21): false, strings.Repeat("a", 5000): false,
		"9" + most[1:]: false, most[:19] + "(": false, most[:18] + "é": false,
	} {
		if lex.Symbol(s) != want {
			t.Errorf("P8.1: Symbol(%s): %t", brief(s), !want)
		}
	}
}

// TestMostBytes takes texts of as many bytes as may be, and of one more.
func TestMostBytes(t *testing.T) {
	const n = api.MaxBytes
	for _, c := range []struct {
		s    string
		want []api.Token
	}{
		{strings.Repeat(" ", n), nil},
		{";" + strings.Repeat("r", n-1), nil},
		{";" + strings.Repeat("é", n/2-1) + "é"[:1], nil},
		{strings.Repeat(";\n", n/2), nil},
		{strings.Repeat("1", n), []api.Token{number(strings.Repeat("1", n))}},
		{strings.Repeat("(", n), slices.Repeat([]api.Token{left()}, n)},
		{strings.Repeat(":k", n/2), slices.Repeat([]api.Token{key("k")}, n/2)},
		{strings.Repeat("a ", n/2), slices.Repeat([]api.Token{symbol("a")}, n/2)},
		{strings.Repeat(" ", n-1) + "a", []api.Token{symbol("a")}},
		{strings.Repeat(" ", n-len(most)) + most, []api.Token{symbol(most)}},
	} {
		checkWords(t, c.s, c.want)
		for _, behind := range []string{" ", "[", ";", "0", ")"} {
			checkError(t, c.s+behind, 0, api.ErrLarge)
			checkError(t, behind+c.s, 0, api.ErrLarge)
		}
		checkError(t, c.s+c.s, 0, api.ErrLarge)
	}
	checkError(t, strings.Repeat(" ", n-1)+"[", n-1, api.ErrByte)
	checkError(t, strings.Repeat(" ", n-2)+"00", n-2, api.ErrByte)
	checkError(t, "0"+strings.Repeat("1", n-1), 0, api.ErrByte)
	checkError(t, strings.Repeat("1", n-1)+"a", 0, api.ErrByte)
	checkError(t, strings.Repeat("a", n), 0, api.ErrByte)
	checkError(t, "["+strings.Repeat(" ", n), 0, api.ErrLarge) // it comes first
	checkError(t, strings.Repeat("é", n/2+1), 0, api.ErrLarge) // bytes are counted
	checkError(t, strings.Repeat("a ", 1<<20), 0, api.ErrLarge)
}

// TestAsTheRulesSay holds Words against the rules, one by one, for scripts and
// for what is nearly one.
func TestAsTheRulesSay(t *testing.T) {
	r := rand.New(rand.NewSource(1))
	read, refused := 0, 0
	for i := range 40000 {
		s := someText(r, 1+i%12)
		if i%4 == 0 {
			s = spelt(r, someWords(r, 12))
		}
		want, where, wrong := scan(s)
		if wrong == api.OK {
			checkWords(t, s, want)
			read++
		} else {
			checkError(t, s, where, wrong)
			refused++
		}
		if t.Failed() {
			return
		}
	}
	if read < 10000 || refused < 10000 {
		t.Errorf("P8.1: only %d texts were read, %d refused", read, refused)
	}
}

// TestShortOnes goes through all texts of three pieces.
func TestShortOnes(t *testing.T) {
	all := append(pieces(), "")
	for _, a := range all {
		for _, b := range all {
			for _, c := range all {
				s := a + b + c
				want, where, wrong := scan(s)
				if wrong == api.OK {
					checkWords(t, s, want)
				} else {
					checkError(t, s, where, wrong)
				}
				if lex.Symbol(s) != wellSymbol.MatchString(s) {
					t.Errorf("P8.1: Symbol(%q): %t", s, lex.Symbol(s))
				}
			}
		}
	}
}
