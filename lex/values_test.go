package lex_test

import (
	"math/rand"
	"regexp"
	"strings"

	"mullion/api"
)

// ofSymbols: each byte of a symbol that is no digit.
const ofSymbols = "ABCDEFGHIJKLMNOPQRSTUVWXYZabcdefghijklmnopqrstuvwxyz~!@$%^&*_-+=<>.?/"

const (
	most    = "abcdefghij0123456789" // as many bytes as a name may have
	tooMany = most + "0"
)

func left() api.Token { return api.Token{Kind: api.TLeft} }

func right() api.Token { return api.Token{Kind: api.TRight} }

func number(text string) api.Token { return api.Token{Kind: api.TNumber, Text: text} }

func symbol(text string) api.Token { return api.Token{Kind: api.TSymbol, Text: text} }

func key(text string) api.Token { return api.Token{Kind: api.TKey, Text: text} }

// The document's rules as patterns, one a rule, for scan to go by.
var (
	between     = regexp.MustCompile(`\A(?:[ \t\n\r]|;[^\n]*\n|;[^\n]*\z)*`)
	digitRow    = regexp.MustCompile(`\A[0-9]+`)
	mixedDigits = regexp.MustCompile(`\A[0-9]+[a-zA-Z~!@$%^&*_\-+=<>.?/]`)
	wellNumber  = regexp.MustCompile(`\A(?:0|[1-9][0-9]*)\z`)
	keyRow      = regexp.MustCompile(`\A:[0-9a-zA-Z~!@$%^&*_\-+=<>.?/]*`)
	symbolRow   = regexp.MustCompile(`\A[a-zA-Z~!@$%^&*_\-+=<>.?/][0-9a-zA-Z~!@$%^&*_\-+=<>.?/]*`)
	wellSymbol  = regexp.MustCompile(`\A[a-zA-Z~!@$%^&*_\-+=<>.?/][0-9a-zA-Z~!@$%^&*_\-+=<>.?/]{0,19}\z`)
)

// scanned gives the word with which s begins, without the program; false, if
// there is none, and with which bytes it would be.
func scanned(s string) (api.Token, string, bool) {
	if s[0] == '(' {
		return left(), s[:1], true
	}
	if s[0] == ')' {
		return right(), s[:1], true
	}
	if all := digitRow.FindString(s); all != "" {
		return number(all), all, wellNumber.MatchString(all) && !mixedDigits.MatchString(s)
	}
	if all := keyRow.FindString(s); all != "" {
		return key(all[1:]), all, wellSymbol.MatchString(all[1:])
	}
	all := symbolRow.FindString(s)
	return symbol(all), all, wellSymbol.MatchString(all)
}

// scan gives what Words is to answer.
func scan(s string) ([]api.Token, int, api.Errno) {
	if len(s) > 4000 {
		return nil, 0, api.ErrLarge
	}
	var out []api.Token
	for at := 0; ; {
		at += len(between.FindString(s[at:]))
		if at == len(s) {
			return out, at, api.OK
		}
		word, all, well := scanned(s[at:])
		if !well {
			return nil, at, api.ErrByte
		}
		out = append(out, word)
		at += len(all)
	}
}

// someWord gives a word of any Kind.
func someWord(r *rand.Rand) api.Token {
	switch r.Intn(5) {
	case 0:
		return left()
	case 1:
		return right()
	case 2:
		return number(someNumber(r))
	case 3:
		return key(someName(r))
	}
	return symbol(someName(r))
}

func someNumber(r *rand.Rand) string {
	out := string(rune('0' + r.Intn(10)))
	for out != "0" && r.Intn(4) > 0 {
		out += string(rune('0' + r.Intn(10)))
	}
	return out
}

func someName(r *rand.Rand) string {
	const all = ofSymbols + "0123456789"
	out := ofSymbols[r.Intn(len(ofSymbols)):][:1]
	for len(out) < 20 && r.Intn(8) > 0 {
		out += all[r.Intn(len(all)):][:1]
	}
	return out
}

// someWords gives words of any Kind, at most n.
func someWords(r *rand.Rand, n int) []api.Token {
	out := make([]api.Token, r.Intn(n+1))
	for i := range out {
		out[i] = someWord(r)
	}
	return out
}

// spelt gives words with anything between them that may stand there.
func spelt(r *rand.Rand, l []api.Token) string {
	gaps := []string{" ", "\t", "\n", "\r", "  ", "\r\n", ";\n", ";(a 01\r[\n", " ; :\n\t;;\n"}
	out := ""
	for _, word := range l {
		out += gaps[r.Intn(len(gaps))]
		out += spelling(word)
	}
	ends := append(gaps, "", ";", " ;:5 é")
	return out + ends[r.Intn(len(ends))]
}

func spelling(word api.Token) string {
	switch word.Kind {
	case api.TLeft:
		return "("
	case api.TRight:
		return ")"
	case api.TKey:
		return ":" + word.Text
	}
	return word.Text
}

// pieces gives what texts near to scripts are put together of.
func pieces() []string {
	return []string{
		"(", ")", "a", "x1", "Z", "0", "5", "12", "00", ":", ";", " ", "\t", "\n", "\r",
		"-", "<=", "é", "\x00", "\xff", "[", "\"", "|", "#", ",", "a ", "0 ", ":k ", ";r\n", most, most[1:], most + " ",
	}
}

// someText puts at most n pieces together: a script, or nearly one.
func someText(r *rand.Rand, n int) string {
	all := pieces()
	var out strings.Builder
	for range r.Intn(n + 1) {
		out.WriteString(all[r.Intn(len(all))])
	}
	return out.String()
}
