package term

import (
	"slices"
	"strings"

	"mullion/api"
)

// names: what the names that were met stand for, in order of the names.
type names struct {
	sigs   []api.Sig // of each name the one that was met first
	unlike bool      // a name was met that stands for something else too
}

// meet goes through terms ahead of their kids.
func (n *names) meet(terms ...api.Term) {
	for _, t := range terms {
		if t.Op == api.OApp {
			n.take(sig(t))
		}
		n.meet(t.Kids...)
	}
}

func (n *names) take(s api.Sig) {
	at, known := slices.BinarySearchFunc(n.sigs, s, byName)
	if known {
		n.unlike = n.unlike || !sameSig(s, n.sigs[at])
		return
	}
	n.sigs = slices.Insert(n.sigs, at, s)
}

func byName(a, b api.Sig) int { return strings.Compare(a.Name, b.Name) }

func sameSig(a, b api.Sig) bool {
	return a.Name == b.Name && slices.Equal(a.Args, b.Args) && a.Ret == b.Ret
}

// sig gives what the name of t, an OApp, stands for.
func sig(t api.Term) api.Sig {
	return api.Sig{Name: strings.Clone(t.Name), Args: sorts(t.Kids...), Ret: t.Sort}
}
