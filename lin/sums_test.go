package lin_test

import (
	"math"
	"math/big"
	"math/rand"
	"slices"
	"testing"

	"mullion/api"
	"mullion/lin"
)

// someInt gives an integer of at most n limbs, many of them at an edge.
func someInt(r *rand.Rand, n int) api.Int {
	edges := []uint32{0, 0, 1, 2, last, last}
	out := api.Int{Mag: make([]uint32, r.Intn(n+1))}
	for i := range out.Mag {
		out.Mag[i] = uint32(r.Intn(api.Base))
		if r.Intn(2) == 0 {
			out.Mag[i] = edges[r.Intn(len(edges))]
		}
	}
	if len(out.Mag) > 0 {
		out.Mag[len(out.Mag)-1] = max(out.Mag[len(out.Mag)-1], 1)
		out.Neg = r.Intn(2) == 0
	}
	return out
}

// some gives a form of some of n variables, of integers of at most so many
// limbs; small ones often, so that forms cancel one another.
func some(r *rand.Rand, n, limbs int) api.Lin {
	out := api.Lin{K: someInt(r, limbs)}
	for v := range n {
		c := someInt(r, limbs)
		if r.Intn(3) > 0 {
			c = small(r.Int63n(5) - 2)
		}
		if len(c.Mag) > 0 {
			out.T = append(out.T, api.Mono{V: v, C: c})
		}
	}
	return out
}

// numbers is a form by numbers: how often each variable is there, and under -1
// the number beside.
type numbers map[int]*big.Int

func byNumbers(a api.Lin) numbers {
	out := numbers{-1: number(a.K)}
	for _, m := range a.T {
		out[m.V] = number(m.C)
	}
	return out
}

// plus adds b, so many times.
func (a numbers) plus(b numbers, times *big.Int) numbers {
	out := numbers{}
	for v, c := range a {
		out[v] = new(big.Int).Set(c)
	}
	for v, c := range b {
		if out[v] == nil {
			out[v] = new(big.Int)
		}
		out[v].Add(out[v], new(big.Int).Mul(c, times))
	}
	return out
}

func (a numbers) put(v int, b numbers) numbers {
	times, there := a[v]
	if v < 0 || !there {
		return a
	}
	out := a.plus(b, times)
	out[v].Sub(out[v], times)
	return out
}

func (a numbers) told() api.Lin {
	var out api.Lin
	for v, c := range a {
		if v < 0 {
			out.K = integer(c)
		} else if c.Sign() != 0 {
			out.T = append(out.T, api.Mono{V: v, C: integer(c)})
		}
	}
	slices.SortFunc(out.T, func(m, n api.Mono) int {
		if m.V < n.V {
			return -1
		}
		return 1
	})
	return out
}

// at gives a's value; what stands beyond x is 0.
func (a numbers) at(x []api.Int) api.Int {
	out := new(big.Int)
	for v, c := range a {
		switch {
		case v < 0:
			out.Add(out, c)
		case v < len(x):
			out.Add(out, new(big.Int).Mul(c, number(x[v])))
		}
	}
	return integer(out)
}

// check holds the sums of a and b, two forms, against numbers.
func check(t *testing.T, a, b api.Lin, c api.Int, v int) {
	t.Helper()
	x, y := byNumbers(a), byNumbers(b)
	one, less := big.NewInt(1), big.NewInt(-1)
	for _, s := range []struct {
		promise, call string
		got, want     api.Lin
	}{
		{"P6.1", "Add", lin.Add(a, b), x.plus(y, one).told()},
		{"P6.1", "Add, the other way round,", lin.Add(b, a), x.plus(y, one).told()},
		{"P6.1", "Sub", lin.Sub(a, b), x.plus(y, less).told()},
		{"P6.1", "Scale", lin.Scale(a, c), numbers{}.plus(x, number(c)).told()},
		{"P6.2", "Put", lin.Put(a, v, b), x.put(v, y).told()},
	} {
		if !equal(s.got, s.want) || !lin.Is(s.got) {
			t.Fatalf("%s: %s of %v, %v (%v, %d): %v, not %v", s.promise, s.call, a, b, c, v, s.got, s.want)
		}
	}
	if lin.Same(a, b) != equal(a, b) {
		t.Fatalf("P6.1: Same(%v, %v): %t", a, b, lin.Same(a, b))
	}
}

func TestSums(t *testing.T) {
	for _, c := range []struct{ a, b, sum, less api.Lin }{
		{form(0), form(0), form(0), form(0)},
		{form(5), form(-5), form(0), form(10)},
		{form(3, 1, 0, -2), form(0), form(3, 1, 0, -2), form(3, 1, 0, -2)},
		{form(0), form(3, 1, 0, -2), form(3, 1, 0, -2), form(-3, -1, 0, 2)},
		{form(0, 1), form(0, -1), form(0), form(0, 2)},
		{form(0, 1), form(0, 1), form(0, 2), form(0)},
		{form(4, 1), form(0, -1), form(4), form(4, 2)},
		{form(3, 1, 0, -2), form(-3, -1, 4), form(0, 0, 4, -2), form(6, 2, -4, -2)},
		{form(1, 1, 2, 3), form(1, -1, 5, -3), form(2, 0, 7), form(0, 2, -3, 6)},
		{form(1, 1, 2, 3), form(1, 1, -2, 3), form(2, 2, 0, 6), form(0, 0, 4)},
		{form(1, 1, 0, 3), form(1, 0, 2, 0, 4), form(2, 1, 2, 3, 4), form(0, 1, -2, 3, -4)},
		{form(1, 0, 0, 0, 3), form(2, 7, 6), form(3, 7, 6, 0, 3), form(-1, -7, -6, 0, 3)},
		{form(1000000000, 999999999), form(-1, 1), form(999999999, 1000000000), form(1000000001, 999999998)},
		{api.Lin{T: []api.Mono{times(math.MaxInt, 2)}}, api.Lin{T: []api.Mono{times(0, 1), times(math.MaxInt, -2)}}, form(0, 1), api.Lin{T: []api.Mono{times(0, -1), times(math.MaxInt, 4)}}},
	} {
		if got := lin.Add(c.a, c.b); !equal(got, c.sum) {
			t.Errorf("P6.1: Add(%v, %v): %v", c.a, c.b, got)
		}
		if got := lin.Sub(c.a, c.b); !equal(got, c.less) {
			t.Errorf("P6.1: Sub(%v, %v): %v", c.a, c.b, got)
		}
	}
}

func TestScale(t *testing.T) {
	for _, c := range []struct {
		a     api.Lin
		times api.Int
		want  api.Lin
	}{
		{form(3, 1, 0, -2), plus(1), form(3, 1, 0, -2)},
		{form(3, 1, 0, -2), minus(1), form(-3, -1, 0, 2)},
		{form(3, 1, 0, -2), minus(3), form(-9, -3, 0, 6)},
		{form(0, 4), plus(5), form(0, 20)},
		{form(4), plus(5), form(20)},
		{form(0), plus(5), form(0)},
		{form(3, 1, 0, -2), api.Int{}, form(0)},
		{form(3, 1, 0, -2), api.Int{Mag: []uint32{}}, form(0)},
		{form(3), api.Int{}, form(0)},
		{form(2, -3), minus(0, 1), api.Lin{T: []api.Mono{{V: 0, C: plus(0, 3)}}, K: minus(0, 2)}},
	} {
		if got := lin.Scale(c.a, c.times); !equal(got, c.want) {
			t.Errorf("P6.1: Scale(%v, %v): %v", c.a, c.times, got)
		}
	}
	for _, bad := range wrongInts() {
		if got := lin.Scale(form(3, 1, 0, -2), bad); !equal(got, api.Lin{}) {
			t.Errorf("P6.1: Scale by %v: %v", bad, got)
		}
	}
}

func TestPut(t *testing.T) {
	a := form(3, 1, 0, -2)
	for _, c := range []struct {
		a    api.Lin
		v    int
		b    api.Lin
		want api.Lin
	}{
		{a, 0, form(2, 1), form(5, 1, 0, -2)},
		{a, 0, form(0), form(3, 0, 0, -2)},
		{a, 0, form(7), form(10, 0, 0, -2)},
		{a, 0, form(0, 0, 1), form(3, 0, 1, -2)},
		{a, 0, form(0, 0, 0, 1), form(3, 0, 0, -1)},
		{a, 0, form(0, 0, 0, 2), form(3)},
		{a, 0, form(-3, 0, 0, 2), form(0)},
		{a, 2, form(-3, -1, 4), form(9, 3, -8)},
		{a, 2, form(0, 0, 0, 1), a},
		{a, 2, form(0, 0, 0, 0, 5), form(3, 1, 0, 0, -10)},
		{a, 0, a, form(6, 1, 0, -4)},
		{a, 2, a, form(-3, -1, 0, 4)},
		{form(1, 2, -3, 4), 1, form(1, 2, -3, 4), form(-2, -4, 9, -8)},
		{form(0, 1), 0, form(7), form(7)},
		{form(0, 1), 0, form(0), form(0)},
		{form(0, -1), 0, form(0, -1), form(0, 1)},
		{form(0, 1, 1), 0, form(0, 0, -1), form(0)},
		{a, 1, form(9, 9, 9, 9), a},
		{a, 3, form(9, 9, 9, 9), a},
		{a, math.MaxInt, form(9, 9, 9, 9), a},
		{a, -1, form(9, 9, 9, 9), a},
		{a, math.MinInt, form(9, 9, 9, 9), a},
		{form(5), 0, form(9, 9), form(5)},
		{form(0), 0, form(9, 9), form(0)},
	} {
		if got := lin.Put(c.a, c.v, c.b); !equal(got, c.want) {
			t.Errorf("P6.2: Put(%v, %d, %v): %v", c.a, c.v, c.b, got)
		}
	}
}

func TestAt(t *testing.T) {
	a := form(3, 1, 0, -2)
	for _, c := range []struct {
		a    api.Lin
		x    []api.Int
		want api.Int
	}{
		{a, smalls(5, 7, 1), plus(6)},
		{a, smalls(5, 7, -1), plus(10)},
		{a, smalls(0, 7, 4), minus(5)},
		{a, smalls(-3), api.Int{}},
		{a, smalls(5), plus(8)},
		{a, smalls(5, 7), plus(8)},
		{a, nil, plus(3)},
		{a, []api.Int{}, plus(3)},
		{a, smalls(5, 7, 1, 9, 9, 9), plus(6)},
		{form(-1), smalls(4), minus(1)},
		{form(0), smalls(4), api.Int{}},
		{form(0), nil, api.Int{}},
		{form(0, 0, 1, -1), smalls(1, 5, 5), api.Int{}},
		{form(-1, 1), []api.Int{plus(0, 1)}, plus(last)},
		{form(0, -1000000000), []api.Int{plus(0, 1)}, minus(0, 0, 1)},
		{api.Lin{T: []api.Mono{times(1, 2), times(math.MaxInt, 2)}, K: plus(1)}, smalls(3, 4, 5), plus(9)},
	} {
		if got := lin.At(c.a, c.x); !same(got, c.want) {
			t.Errorf("P6.2: At(%v, %v): %v", c.a, c.x, got)
		}
	}
	for _, bad := range wrongInts() {
		for _, c := range []struct {
			x    []api.Int
			want api.Int
		}{{[]api.Int{bad, plus(1), plus(2)}, minus(1)}, {[]api.Int{plus(1), bad, plus(2)}, api.Int{}}, {[]api.Int{plus(1), plus(7), bad}, plus(4)}, {[]api.Int{bad, bad, bad}, plus(3)}} {
			if got := lin.At(a, c.x); !same(got, c.want) {
				t.Errorf("P6.2: At(%v, %v): %v", a, c.x, got)
			}
		}
	}
}

// TestSmall takes all forms of two variables and small numbers, two by two.
func TestSmall(t *testing.T) {
	var all []api.Lin
	for k := int64(-1); k <= 1; k++ {
		for c := int64(-2); c <= 2; c++ {
			for d := int64(-2); d <= 2; d++ {
				all = append(all, form(k, c, 0, d))
			}
		}
	}
	for i, a := range all {
		for j, b := range all {
			check(t, a, b, small(int64(j%7-3)), (i+j)%5-1)
		}
	}
}

func TestOnes(t *testing.T) {
	for i, a := range ones() {
		for j, b := range ones() {
			for _, v := range []int{-1, 0, 1, 2, 3, 4, math.MaxInt - 1, math.MaxInt} {
				check(t, a, b, small(int64((i+j)%5-2)), v)
			}
		}
	}
}

func TestAsNumbers(t *testing.T) {
	r := rand.New(rand.NewSource(2))
	for range 3000 {
		check(t, some(r, 5, 1), some(r, 5, 1), someInt(r, 1), r.Intn(7)-1)
		check(t, some(r, 8, 3), some(r, 8, 3), someInt(r, 3), r.Intn(10)-1)
		a := some(r, 5, 2)
		var x []api.Int
		for range r.Intn(8) {
			x = append(x, someInt(r, 2))
		}
		if got, want := lin.At(a, x), byNumbers(a).at(x); !same(got, want) {
			t.Fatalf("P6.2: At(%v, %v): %v, not %v", a, x, got, want)
		}
	}
}

// TestLong takes forms of far more than MaxVars variables, and numbers far
// beyond MaxLimbs: nothing has a bound.
func TestLong(t *testing.T) {
	r := rand.New(rand.NewSource(3))
	for _, n := range []int{api.MaxVars, api.MaxVars + 1, 1000} {
		a, b := some(r, n, 2), some(r, n, 2)
		check(t, a, b, someInt(r, 2), n/2)
		check(t, a, lin.Scale(a, minus(1)), someInt(r, 2), n/2)
		check(t, a, a, api.Int{}, n/2)
	}
	for range 20 {
		check(t, some(r, 4, 100), some(r, 4, 100), someInt(r, 100), r.Intn(4))
	}
	all := api.Lin{K: plus(1)}
	var x []api.Int
	for v := range 100000 {
		all.T = append(all.T, times(v, 2))
		x = append(x, plus(1))
	}
	if got := lin.At(lin.Sub(lin.Add(all, all), all), x); !same(got, plus(200001)) {
		t.Errorf("P6.3: of many variables: %v", got)
	}
}

// TestValues: P6.3, at values as they come, by the program's own counting too.
func TestValues(t *testing.T) {
	r := rand.New(rand.NewSource(4))
	for range 2000 {
		a, b, c := some(r, 6, 2), some(r, 6, 2), someInt(r, 2)
		var x []api.Int
		for range r.Intn(9) {
			x = append(x, someInt(r, 2))
		}
		v := r.Intn(6)
		p, q := number(lin.At(a, x)), number(lin.At(b, x))
		y := append(slices.Clone(x), make([]api.Int, max(v+1-len(x), 0))...)
		y[v] = integer(q)
		for _, s := range []struct {
			call string
			got  api.Lin
			want *big.Int
		}{
			{"Add", lin.Add(a, b), new(big.Int).Add(p, q)},
			{"Sub", lin.Sub(a, b), new(big.Int).Sub(p, q)},
			{"Scale", lin.Scale(a, c), new(big.Int).Mul(p, number(c))},
			{"Put", lin.Put(a, v, b), number(lin.At(a, y))},
		} {
			if got := lin.At(s.got, x); !same(got, integer(s.want)) {
				t.Fatalf("P6.3: %s of %v, %v (%v, %d), at %v: %v, not %v", s.call, a, b, c, v, x, got, s.want)
			}
		}
	}
}

// TestLaws goes by what holds of sums, whatever they are.
func TestLaws(t *testing.T) {
	r := rand.New(rand.NewSource(5))
	for range 1000 {
		a, b, c, n, v := some(r, 6, 2), some(r, 6, 2), some(r, 6, 2), someInt(r, 2), r.Intn(6)
		parts := lin.Const(a.K)
		for _, m := range a.T {
			parts = lin.Add(parts, lin.Scale(lin.Var(m.V), lin.Coef(a, m.V)))
		}
		for i, pair := range [][2]api.Lin{
			{parts, a},
			{lin.Add(a, b), lin.Add(b, a)},
			{lin.Add(lin.Add(a, b), c), lin.Add(a, lin.Add(b, c))},
			{lin.Sub(lin.Add(a, b), b), a},
			{lin.Sub(a, a), {}},
			{lin.Sub(a, b), lin.Scale(lin.Sub(b, a), minus(1))},
			{lin.Scale(lin.Add(a, b), n), lin.Add(lin.Scale(a, n), lin.Scale(b, n))},
			{lin.Put(a, v, lin.Var(v)), a},
			{lin.Put(lin.Var(v), v, a), a},
			{lin.Put(lin.Add(a, b), v, c), lin.Add(lin.Put(a, v, c), lin.Put(b, v, c))},
		} {
			if !equal(pair[0], pair[1]) || !lin.Same(pair[0], pair[1]) {
				t.Fatalf("P6.3: law %d of %v, %v, %v: %v and %v", i, a, b, c, pair[0], pair[1])
			}
		}
	}
}
