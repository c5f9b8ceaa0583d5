package below_test

import (
	"math"
	"math/big"
	"math/rand"
	"slices"
	"testing"

	"mullion/api"
	"mullion/below"
	"mullion/lin"
)

func TestNormWithoutVariables(t *testing.T) {
	for _, c := range []struct {
		k     api.Int
		class int
	}{
		{api.Int{}, api.Always},
		{api.Int{Mag: []uint32{}}, api.Always},
		{minus(1), api.Always},
		{minus(5), api.Always},
		{minus(0, 0, 1), api.Always},
		{plus(1), api.Never},
		{plus(5), api.Never},
		{plus(0, 0, 1), api.Never},
	} {
		for _, l := range []api.Lin{{K: c.k}, {T: []api.Mono{}, K: c.k}} {
			if got, class := below.Norm(l); !equal(got, l) || class != c.class {
				t.Errorf("P7.1: Norm(%v): %v, %d", l, got, class)
			}
		}
	}
}

func TestNorm(t *testing.T) {
	for _, c := range []struct{ l, want api.Lin }{
		{form(-3, 2), form(-1, 1)},
		{form(3, 2), form(2, 1)},
		{form(4, 2), form(2, 1)},
		{form(-4, 2), form(-2, 1)},
		{form(1, 2), form(1, 1)},
		{form(-1, 2), form(0, 1)},
		{form(-3, -2), form(-1, -1)},
		{form(3, -2), form(2, -1)},
		{form(0, 5), form(0, 1)},
		{form(0, -5), form(0, -1)},
		{form(7, 1), form(7, 1)},
		{form(-7, -1), form(-7, -1)},
		{form(-7, 2, 3), form(-7, 2, 3)},
		{form(1, 6, 10, 15), form(1, 6, 10, 15)},
		{form(6, 4, 2), form(3, 2, 1)},
		{form(4, 6, 0, -9), form(2, 2, 0, -3)},
		{form(-4, 6, 0, -9), form(-1, 2, 0, -3)},
		{form(-2, 6, 0, -9), form(0, 2, 0, -3)},
		{form(100, 0, 0, -12), form(9, 0, 0, -1)},
		{form(-100, 0, 0, -12), form(-8, 0, 0, -1)},
		{api.Lin{T: []api.Mono{{V: 5, C: plus(0, 1)}}, K: plus(1)}, api.Lin{T: []api.Mono{times(5, 1)}, K: plus(1)}},
		{api.Lin{T: []api.Mono{{V: 5, C: minus(0, 1)}}, K: plus(1, 1)}, api.Lin{T: []api.Mono{times(5, -1)}, K: plus(2)}},
		{api.Lin{T: []api.Mono{{V: 5, C: minus(0, 1)}}, K: minus(last)}, api.Lin{T: []api.Mono{times(5, -1)}}},
		{api.Lin{T: []api.Mono{{V: 0, C: plus(0, 0, 6)}, {V: 9, C: minus(0, 9)}}, K: minus(1, 3)}, api.Lin{T: []api.Mono{{V: 0, C: plus(0, 2)}, times(9, -3)}, K: minus(1)}},
		{api.Lin{T: []api.Mono{times(0, 4), times(math.MaxInt, -2)}, K: plus(5)}, api.Lin{T: []api.Mono{times(0, 2), times(math.MaxInt, -1)}, K: plus(3)}},
	} {
		if got, class := below.Norm(c.l); !equal(got, c.want) || class != api.Open {
			t.Errorf("P7.1: Norm(%v): %v, %d, not %v", c.l, got, class, c.want)
		}
	}
}

// normed gives what Norm is to answer, by numbers.
func normed(l api.Lin) (api.Lin, int) {
	divisor := new(big.Int)
	for _, m := range l.T {
		divisor.GCD(nil, nil, divisor, new(big.Int).Abs(number(m.C)))
	}
	switch {
	case divisor.Sign() == 0 && number(l.K).Sign() > 0:
		return l, api.Never
	case divisor.Sign() == 0:
		return l, api.Always
	}
	k, left := new(big.Int).DivMod(number(l.K), divisor, new(big.Int))
	if left.Sign() > 0 {
		k.Add(k, big.NewInt(1))
	}
	out := api.Lin{K: integer(k)}
	for _, m := range l.T {
		out.T = append(out.T, api.Mono{V: m.V, C: integer(new(big.Int).Quo(number(m.C), divisor))})
	}
	return out, api.Open
}

func TestNormAsNumbers(t *testing.T) {
	r := rand.New(rand.NewSource(1))
	for i := range 3000 {
		l := some(r, 5, i%4+1)
		want, wantClass := normed(l)
		got, class := below.Norm(l)
		if !equal(got, want) || class != wantClass || !lin.Is(got) {
			t.Fatalf("P7.1: Norm(%v): %v, %d, not %v, %d", l, got, class, want, wantClass)
		}
		if again, class := below.Norm(got); !equal(again, want) || class != wantClass {
			t.Fatalf("P7.1: Norm(%v): %v, %d: it is normed already", got, again, class)
		}
	}
}

// TestNormOfMany has more variables than any list that grows by steps.
func TestNormOfMany(t *testing.T) {
	for n := range 70 {
		l, want := api.Lin{K: small(-7)}, api.Lin{K: small(-2)}
		for v := range n {
			l.T = append(l.T, times(2*v, int64(3+3*v)))
			want.T = append(want.T, times(2*v, int64(1+v)))
		}
		if n == 0 {
			want.K = l.K
		}
		if got, _ := below.Norm(l); !equal(got, want) {
			t.Errorf("P7.1: Norm of %d variables: %v", n, got)
		}
	}
}

func TestNot(t *testing.T) {
	for _, c := range []struct{ l, want api.Lin }{
		{api.Lin{}, form(1)},
		{form(1), api.Lin{}},
		{form(2), form(-1)},
		{form(-1), form(2)},
		{form(5), form(-4)},
		{form(0, 1), form(1, -1)},
		{form(1, 1), form(0, -1)},
		{form(-3, 2, -1), form(4, -2, 1)},
		{form(-4, 2, 0, 6), form(5, -2, 0, -6)}, // it isn't normed
		{api.Lin{K: plus(0, 1)}, api.Lin{K: minus(last)}},
		{api.Lin{K: minus(last)}, api.Lin{K: plus(0, 1)}},
		{api.Lin{T: []api.Mono{{V: math.MaxInt, C: minus(7, 8, 9)}}, K: plus(1)}, api.Lin{T: []api.Mono{{V: math.MaxInt, C: plus(7, 8, 9)}}}},
	} {
		if got := below.Not(c.l); !equal(got, c.want) {
			t.Errorf("P7.1: Not(%v): %v, not %v", c.l, got, c.want)
		}
	}
}

func TestNotAsNumbers(t *testing.T) {
	r := rand.New(rand.NewSource(2))
	for i := range 2000 {
		l := some(r, 5, i%4+1)
		want := api.Lin{K: integer(new(big.Int).Sub(big.NewInt(1), number(l.K)))}
		for _, m := range l.T {
			want.T = append(want.T, api.Mono{V: m.V, C: integer(new(big.Int).Neg(number(m.C)))})
		}
		if got := below.Not(l); !equal(got, want) || !lin.Is(got) {
			t.Fatalf("P7.1: Not(%v): %v, not %v", l, got, want)
		}
		if got := below.Not(below.Not(l)); !equal(got, l) {
			t.Fatalf("P7.1: Not of Not(%v): %v", l, got)
		}
	}
}

func TestHolds(t *testing.T) {
	for _, c := range []struct {
		l    api.Lin
		x    []api.Int
		want bool
	}{
		{form(0), nil, true},
		{form(-1), nil, true},
		{form(1), nil, false},
		{form(1), smalls(-9, -9), false},
		{form(-3, 1), smalls(2), true},
		{form(-3, 1), smalls(3), true},
		{form(-3, 1), smalls(4), false},
		{form(3, -1), smalls(2), false},
		{form(3, -1), smalls(3), true},
		{form(3, -1), smalls(4), true},
		{form(0, 1), smalls(0), true},
		{form(0, 1), smalls(-1), true},
		{form(0, 1), smalls(1), false},
		{form(-1, 2, -3), smalls(2, 1), true},
		{form(0, 2, -3), smalls(2, 1), false},
		{form(0, 0, 0, 1), smalls(9, 9), true},         // variable 2 is 0
		{form(1, 0, 0, -1), smalls(9, 9), false},       // likewise
		{form(1, 0, 0, -1), smalls(9, 9, 1), true},     // it is there
		{form(1, 0, 0, -1), smalls(9, 9, 1, -9), true}, // and more
		{form(-2, 1, 1), smalls(3), false},             // only the first is there
		{form(-3, 1, 1), smalls(3), true},              // likewise
		{form(1, -1), nil, false},                      // none is there
		{form(0, -1), nil, true},                       // likewise
		{form(-1, 2), smalls(1), false},                // as it was given, not rounded
		{api.Lin{T: []api.Mono{times(math.MaxInt, 1)}, K: plus(1)}, smalls(-5), false},
		{api.Lin{T: []api.Mono{{V: 0, C: plus(0, 1)}}, K: minus(0, 0, 1)}, []api.Int{plus(0, 1)}, true},
		{api.Lin{T: []api.Mono{{V: 0, C: plus(0, 1)}}, K: minus(last, last)}, []api.Int{plus(0, 1)}, false},
	} {
		if below.Holds(c.l, c.x) != c.want {
			t.Errorf("P7.1: Holds(%v, %v): %t", c.l, c.x, !c.want)
		}
	}
}

func TestAll(t *testing.T) {
	for _, x := range points() {
		if !below.All(nil, x) || !below.All([]api.Lin{}, x) {
			t.Errorf("P7.1: All of none at %v: false", x)
		}
	}
	x := smalls(3, -2)
	hold, not := []api.Lin{form(-3, 1), form(0, 0, 1), form(-1, 1, 1)}, form(-2, 1)
	if !below.All(hold, x) || !below.All(hold[:1], x) {
		t.Error("P7.1: All of those that hold: false")
	}
	for place := range len(hold) + 1 {
		if below.All(slices.Insert(slices.Clone(hold), place, not), x) {
			t.Errorf("P7.1: All, of which one at %d doesn't hold: true", place)
		}
	}
	if below.All([]api.Lin{not}, x) || below.All([]api.Lin{not, not}, x) {
		t.Error("P7.1: All of those that don't hold: true")
	}
}

func TestAllAsNumbers(t *testing.T) {
	r := rand.New(rand.NewSource(3))
	for range 1000 {
		l := make([]api.Lin, r.Intn(4))
		x := somePoint(r, 5, 2)
		want := true
		for i := range l {
			l[i] = some(r, 5, 2)
			want = want && worth(l[i], x).Sign() <= 0
		}
		if below.All(l, x) != want {
			t.Fatalf("P7.1: All(%v, %v): %t", l, x, !want)
		}
	}
}

// checkKept holds a constraint, its Norm and its Not against what it is worth.
func checkKept(t *testing.T, l api.Lin, x []api.Int) {
	t.Helper()
	want := worth(l, x).Sign() <= 0
	norm, class := below.Norm(l)
	if below.Holds(l, x) != want || below.All([]api.Lin{l}, x) != want {
		t.Fatalf("P7.1: Holds(%v, %v): %t", l, x, !want)
	}
	if below.Holds(norm, x) != want {
		t.Fatalf("P7.2: %v at %v: %t, normed %t", l, x, want, !want)
	}
	if below.Holds(below.Not(l), x) == want || below.Holds(below.Not(norm), x) == want {
		t.Fatalf("P7.2: %v at %v: %t, and its opposite too", l, x, want)
	}
	if class == api.Always && !want || class == api.Never && want {
		t.Fatalf("P7.2: %v at %v: %t, class %d", l, x, want, class)
	}
}

// TestSameIntegersKeep goes through all small constraints in two variables,
// and all small points.
func TestSameIntegersKeep(t *testing.T) {
	for k := int64(-7); k <= 7; k++ {
		for c := int64(-4); c <= 4; c += 2 {
			for d := int64(-6); d <= 6; d += 3 {
				for x := int64(-3); x <= 3; x++ {
					for y := int64(-3); y <= 3; y++ {
						checkKept(t, form(k, c, d), smalls(x, y))
						checkKept(t, form(k, c, c*d), smalls(x, y))
					}
				}
			}
		}
	}
}

// TestSameIntegersKeepAtEdges puts K where the constraint holds just yet, and
// just not any more.
func TestSameIntegersKeepAtEdges(t *testing.T) {
	r := rand.New(rand.NewSource(4))
	for i := range 2000 {
		l, x := some(r, 5, i%4+1), somePoint(r, 6, i%4+1)
		checkKept(t, l, x)
		edge := new(big.Int).Sub(number(l.K), worth(l, x))
		for step := int64(-2); step <= 2; step++ {
			checkKept(t, api.Lin{T: l.T, K: integer(new(big.Int).Add(edge, big.NewInt(step)))}, x)
		}
	}
}
