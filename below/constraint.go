package below

import (
	"mullion/api"
	"mullion/lin"
	"mullion/whole"
)

// constraint is what an api.Lin counts as: the form that it embeds is 0 at
// most. What the form answers is of the form alone; what hangs on its being 0
// at most has a method here.
type constraint struct{ form }

func read(l api.Lin) constraint {
	if !lin.Is(l) {
		return constraint{}
	}
	return constraint{form(l)}
}

func (c constraint) holds(x []api.Int) bool { return whole.Sign(c.at(x)) <= 0 }

// class goes by any point where there are no variables: all are alike then.
func (c constraint) class() int {
	switch {
	case c.varies():
		return api.Open
	case c.holds(nil):
		return api.Always
	}
	return api.Never
}
