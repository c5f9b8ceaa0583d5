package below

import (
	"mullion/api"
	"mullion/lin"
	"mullion/whole"
)

// form: an api.Lin that answers for itself, so that a constraint can embed it.
// One that was read lies on the memory of its api.Lin; what is reckoned from it
// is new, since packages whole and lin answer new integers and forms.
type form api.Lin

func (f form) told() api.Lin { return api.Lin(f) }

func (f form) varies() bool { return len(f.T) > 0 }

func (f form) at(x []api.Int) api.Int { return lin.At(f.told(), x) }

// from gives n less the form.
func (f form) from(n int64) form { return form(lin.Sub(lin.Const(whole.Of(n)), f.told())) }

// common is above 0: without variables nothing is to be divided away.
func (f form) common() api.Int {
	if !f.varies() {
		return whole.Of(1)
	}
	return lin.Gcd(f.told())
}

// by needs a divisor above 0 of what all variables are times, so that only K
// may have to be rounded. It is rounded up: what the variables make is a
// multiple of the divisor, and at most K's opposite; by the divisor it is an
// integer, and so at most that rounded down.
func (f form) by(divisor api.Int) form {
	out := form{K: up(f.K, divisor)}
	for _, m := range f.T {
		out.T = append(out.T, api.Mono{V: m.V, C: up(m.C, divisor)})
	}
	return out
}

// up rounds up: what is rounded down of the opposite, is rounded up of a.
func up(a, b api.Int) api.Int {
	quotient, _ := whole.Floor(whole.Neg(a), b)
	return whole.Neg(quotient)
}
