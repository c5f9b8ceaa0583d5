package lex

import (
	"strings"

	"mullion/api"
)

const (
	opening = "("
	closing = ")"
	colon   = ":"
	remark  = ";"
	lineEnd = "\n"
)

// gap gives how many bytes of s lie ahead of its first word: blanks and remarks.
func gap(s string) int {
	rest := s[row(s, blanks):]
	for strings.HasPrefix(rest, remark) {
		_, rest, _ = strings.Cut(rest, lineEnd) // nothing is left, if no line end closes it
		rest = rest[row(rest, blanks):]
	}
	return len(s) - len(rest)
}

// first gives the word with which s, which isn't empty, begins, and how many
// bytes it has: 0, if s begins with none.
//
// Digits right ahead of a symbol's byte are no word, so that what isn't a
// parenthesis goes as far as a symbol's bytes do, whatever its Kind is.
func first(s string) (api.Token, int) {
	switch s[:1] {
	case opening:
		return api.Token{Kind: api.TLeft}, 1
	case closing:
		return api.Token{Kind: api.TRight}, 1
	}
	rest, key := strings.CutPrefix(s, colon)
	text := rest[:symbolic(rest)]
	switch {
	case key && Symbol(text):
		return token(api.TKey, text), len(colon) + len(text)
	case !key && Symbol(text):
		return token(api.TSymbol, text), len(text)
	case !key && numeral(text):
		return token(api.TNumber, text), len(text)
	}
	return api.Token{}, 0
}

// token copies text: a word isn't to hold the whole script that it is of.
func token(kind int, text string) api.Token {
	return api.Token{Kind: kind, Text: strings.Clone(text)}
}

// numeral tells whether s is `0`, or digits, the first not 0.
func numeral(s string) bool {
	if s == "" || s[0] == '0' {
		return s == "0"
	}
	return row(s, digits) == len(s)
}
