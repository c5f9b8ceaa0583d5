package sort

import (
	"strings"

	"mullion/api"
	"mullion/digits"
	"mullion/whole"
)

func told(t api.Term) api.Tree {
	switch t.Op {
	case api.ONum:
		return numeral(t.N)
	case api.OTrue:
		return leaf(yes)
	case api.OFalse:
		return leaf(no)
	case api.OApp:
		return named(strings.Clone(t.Name), t.Kids...)
	}
	return headed(words[t.Op], all(t.Kids...)...)
}

// numeral gives a number's tree. A word has no sign: a number below 0 is told
// as the negative of the one above it.
func numeral(n api.Int) api.Tree {
	size := api.Tree{Tok: api.Token{Kind: api.TNumber, Text: digits.Nat(whole.Abs(n).Mag)}}
	if whole.Sign(n) < 0 {
		return headed(minus, size)
	}
	return size
}

// named gives the tree of a name of however many terms.
func named(name string, terms ...api.Term) api.Tree {
	if len(terms) == 0 {
		return leaf(name)
	}
	return headed(name, all(terms...)...)
}

// headed gives a List of a word and however many kids.
func headed(text string, kids ...api.Tree) api.Tree {
	return api.Tree{List: true, Kids: append([]api.Tree{leaf(text)}, kids...)}
}

func all(terms ...api.Term) []api.Tree {
	var out []api.Tree
	for _, t := range terms {
		out = append(out, told(t))
	}
	return out
}

func leaf(text string) api.Tree { return api.Tree{Tok: word(text)} }
