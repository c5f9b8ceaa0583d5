package value

import (
	"slices"

	"mullion/api"
	"mullion/term"
	"mullion/whole"
)

// sound tells whether all that f says is of the sorts that its Sig tells.
func sound(f api.Fun) bool {
	if !term.IsSig(f.Sig) || !sorted(f.Else, f.Sig.Ret) {
		return false
	}
	for _, row := range f.Rows {
		if !slices.EqualFunc(row.Args, f.Sig.Args, sorted) || !sorted(row.V, f.Sig.Ret) {
			return false
		}
	}
	return true
}

// sorted tells whether v is a value of that sort, one of a Sig.
func sorted(v api.Value, sort int) bool {
	return v.Sort == sort && whole.Is(v.N) && (sort == api.SInt || binary(v.N))
}

func binary(n api.Int) bool {
	small, fits := whole.Small(n)
	return fits && (small == 0 || small == 1)
}
