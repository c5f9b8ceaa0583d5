package lex

import "strings"

// Classes of bytes: a byte is of a class, if it stands in its text.
const (
	blanks  = " \t\n\r"
	digits  = "0123456789"
	letters = "abcdefghijklmnopqrstuvwxyzABCDEFGHIJKLMNOPQRSTUVWXYZ"
	marks   = "~!@$%^&*_-+=<>.?/"
)

// among tells whether b is of one of the classes.
func among(b byte, classes ...string) bool {
	for _, class := range classes {
		if strings.IndexByte(class, b) >= 0 {
			return true
		}
	}
	return false
}

// row gives how many bytes of the classes s begins with.
func row(s string, classes ...string) int {
	size := 0
	for size < len(s) && among(s[size], classes...) {
		size++
	}
	return size
}

// symbolic gives how many bytes of a symbol s begins with.
func symbolic(s string) int { return row(s, letters, digits, marks) }
