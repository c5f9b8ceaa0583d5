package sort

import "mullion/api"

const (
	yes     = "true"
	no      = "false"
	binder  = "let"
	integer = "Int"
	truth   = "Bool"
	minus   = "-"
	ours    = "!" // begins the names that the program makes
)

// words of the operators from ONot on: those ahead of it have none.
var words = [...]string{
	api.ONot:      "not",
	api.OAnd:      "and",
	api.OOr:       "or",
	api.OXor:      "xor",
	api.OImplies:  "=>",
	api.OEq:       "=",
	api.ODistinct: "distinct",
	api.OIte:      "ite",
	api.OAdd:      "+",
	api.OSub:      minus,
	api.OMul:      "*",
	api.ODiv:      "div",
	api.OMod:      "mod",
	api.OAbs:      "abs",
	api.OLe:       "<=",
	api.OLt:       "<",
	api.OGe:       ">=",
	api.OGt:       ">",
}

const none = 0 // for an operator: no text is its word but the empty one

// operator gives the operator of which s is the word; else none.
func operator(s string) int {
	for op, one := range words {
		if one == s {
			return op
		}
	}
	return none
}

// alone tells whether s is a word that begins no List.
func alone(s string) bool { return s == yes || s == no || s == integer || s == truth }

func word(text string) api.Token { return api.Token{Kind: api.TSymbol, Text: text} }
