package value_test

import (
	"math/rand"
	"slices"
	"strconv"
	"testing"

	"mullion/api"
	"mullion/value"
	"mullion/whole"
)

func checkIs(t *testing.T, of string, m []api.Fun, want bool) {
	t.Helper()
	if got := value.Is(m); got != want {
		t.Errorf("P12.1: %s: Is: %t: %s", of, got, brief(outline(m)))
	}
}

func TestIs(t *testing.T) {
	for of, m := range map[string][]api.Fun{
		"nothing": nil, "an empty list": {}, "some": some(), "a constant": {constant("x", number(3))}, "a Bool": {constant("p", truth(1))}, "a long name": {constant(most, number(0))}, "a name that is reserved": {constant("!0", truth(0)), constant("and", number(1)), constant("let", number(1))},
		"a long number": {constant("x", api.Value{Sort: i, N: long(-1)})}, "a very long number": {constant("x", api.Value{Sort: i, N: api.Int{Mag: slices.Repeat([]uint32{999999999}, 5000)}})},
		"a constant with rows": {function(signature("x", i), number(3), row(number(4)), row(number(5)))}, "an empty list of Args": {function(api.Sig{Name: "x", Args: []int{}, Ret: i}, number(3), api.Row{Args: []api.Value{}, V: number(4)})},
		"three Args": {function(signature("f", b, i, b, i), truth(0), row(truth(1), number(1), truth(1), number(-1)))}, "a row twice": {function(signature("f", i, i), number(0), row(number(1), number(1)), row(number(1), number(1)))},
		"names in order": {constant("!", number(1)), constant("!1", number(1)), constant("!10", number(1)), constant("!2", number(1)), constant("B", number(1)), constant("a", number(1)), constant("a!", number(1)), constant("aa", number(1)), constant("~", number(1))},
	} {
		checkIs(t, of, m, true)
	}
	const f = 1 // where some has a function of one Arg
	for of, does := range map[string]func(m []api.Fun){
		"names that fall": func(m []api.Fun) { m[0], m[1] = m[1], m[0] }, "the last name is the first": func(m []api.Fun) { m[9].Sig.Name = "!" }, "a name twice": func(m []api.Fun) { m[8].Sig.Name = "x" }, "a name twice, of two Sigs": func(m []api.Fun) { m[4].Sig.Name = "h" },
		"capitals behind": func(m []api.Fun) { m[9].Sig.Name = "Z" }, "a longer name ahead": func(m []api.Fun) { m[7].Sig.Name = "yy" },
		"no name": func(m []api.Fun) { m[0].Sig.Name = "" }, "a name that is no symbol": func(m []api.Fun) { m[0].Sig.Name = " " }, "a number as a name": func(m []api.Fun) { m[0].Sig.Name = "5" }, "a name that is too long": func(m []api.Fun) { m[9].Sig.Name = "z" + most },
		"no Ret": func(m []api.Fun) { m[f].Sig.Ret = 0 }, "no such Ret": func(m []api.Fun) { m[9].Sig.Ret, m[9].Else.Sort = 3, 3 }, "no such Arg": func(m []api.Fun) { m[6].Sig.Args[0] = 3 }, "four Args": func(m []api.Fun) { m[6].Sig.Args = []int{b, b, b, b} }, "another Ret": func(m []api.Fun) { m[f].Sig.Ret = b },
		"another Else": func(m []api.Fun) { m[f].Else = truth(1) }, "another Else of a Bool": func(m []api.Fun) { m[4].Else = number(1) }, "no Else": func(m []api.Fun) { m[4].Else = api.Value{} }, "Else of no sort": func(m []api.Fun) { m[4].Else.Sort = 9 },
		"Else below 0, but 0": func(m []api.Fun) { m[f].Else.N = api.Int{Neg: true} }, "Else with a nought ahead": func(m []api.Fun) { m[9].Else.N = api.Int{Mag: []uint32{3, 0}} }, "Else with a limb that is too large": func(m []api.Fun) { m[9].Else.N = api.Int{Mag: []uint32{api.Base}} },
		"a Bool of 2": func(m []api.Fun) { m[4].Else = truth(2) }, "a Bool below 0": func(m []api.Fun) { m[4].Else = truth(-1) }, "a long Bool": func(m []api.Fun) { m[5].Else.N = long(1) }, "a Bool of two limbs": func(m []api.Fun) { m[5].Else.N = api.Int{Mag: []uint32{1, 1}} }, "a Bool of no integer": func(m []api.Fun) { m[5].Else.N = api.Int{Mag: []uint32{0}} },
		"a Bool of -0": func(m []api.Fun) { m[5].Else.N = api.Int{Neg: true} }, "a Bool of 1 and 2^32": func(m []api.Fun) { m[5].Else.N = whole.Of(1<<32 + 1) }, "a Bool of 1 and 2^64": func(m []api.Fun) { m[5].Else.N = whole.Add(whole.Mul(whole.Of(1<<32), whole.Of(1<<32)), whole.Of(1)) },
		"a row without Args": func(m []api.Fun) { m[f].Rows[1].Args = nil }, "a row of too many Args": func(m []api.Fun) { m[f].Rows[3].Args = append(m[f].Rows[3].Args, number(1)) }, "a row of too few Args": func(m []api.Fun) { m[2].Rows[1].Args = m[2].Rows[1].Args[:1] },
		"a constant's row of Args": func(m []api.Fun) { m[8].Rows[1].Args = []api.Value{number(1)} }, "a row of other Args": func(m []api.Fun) { m[f].Rows[2].Args[0] = truth(1) }, "a row's Args in another order": func(m []api.Fun) { slices.Reverse(m[2].Rows[0].Args) },
		"an Arg of no integer": func(m []api.Fun) { m[f].Rows[0].Args[0].N = api.Int{Neg: true} }, "an Arg of no sort": func(m []api.Fun) { m[f].Rows[0].Args[0].Sort = 0 }, "a Bool Arg of 2": func(m []api.Fun) { m[2].Rows[1].Args[1] = truth(2) }, "a Bool Arg of 2, the first": func(m []api.Fun) { m[3].Rows[1].Args[0] = truth(2) },
		"another V": func(m []api.Fun) { m[f].Rows[3].V = truth(0) }, "a Bool V of 2": func(m []api.Fun) { m[2].Rows[0].V = truth(2) }, "a V of no integer": func(m []api.Fun) { m[8].Rows[0].V.N.Mag = []uint32{1, 0} }, "no V": func(m []api.Fun) { m[8].Rows[1].V = api.Value{} },
	} {
		m := some()
		does(m)
		checkIs(t, of, m, false)
		if legal(m) {
			t.Errorf("%s: that is a structure", of)
		}
		checkNothing(t, of, m)
	}
}

// checkNothing holds all that is told of m against what is told of nothing.
func checkNothing(t *testing.T, of string, m []api.Fun) {
	t.Helper()
	for _, f := range some() {
		checkValue(t, "P12.1", of+", Of "+f.Sig.Name, value.Of(m, f.Sig, nil), api.Value{Sort: f.Sig.Ret})
		if len(f.Sig.Args) == 0 {
			checkEval(t, apply(f.Sig.Name, f.Sig.Ret), m, api.Value{Sort: f.Sig.Ret})
		}
	}
	checkEval(t, apply("f", api.SInt, num(1)), m, number(0))
	checkEval(t, of2(api.OAdd, x(), num(3)), m, number(3))
	if value.True([]api.Term{p()}, m) || !value.True([]api.Term{of2(api.OEq, x(), num(0))}, m) {
		t.Errorf("P12.2: %s: True", of)
	}
	if got := outline(value.Put(m, "x", number(3))); got != outline([]api.Fun{constant("x", number(3))}) {
		t.Errorf("P12.3: %s: Put: %s", of, got)
	}
}

// of2 gives an operator of two numbers.
func of2(op int, a, b api.Term) api.Term {
	sort := api.SBool
	if op >= api.OAdd && op <= api.OMod {
		sort = api.SInt
	}
	return of(op, sort, a, b)
}

// tampered gives m with one thing in it that is otherwise.
func tampered(r *rand.Rand, m []api.Fun) []api.Fun {
	m = copyOf(m)
	if len(m) == 0 {
		return []api.Fun{{}}
	}
	at := r.Intn(len(m))
	f := &m[at]
	switch r.Intn(6) {
	case 0:
		f.Sig.Name = pick(r, "", "x", "f", "5", "a b", most, most+"0", m[0].Sig.Name)
	case 1:
		f.Sig.Ret = r.Intn(4)
	case 2:
		f.Sig.Args = pick(r, nil, []int{api.SInt}, []int{api.SBool, api.SInt}, []int{0}, slices.Repeat([]int{api.SInt}, 4))
	case 3:
		tamper(r, &f.Else)
	case 4:
		if len(f.Rows) > 0 {
			tamper(r, &f.Rows[r.Intn(len(f.Rows))].V)
		}
	case 5:
		if len(f.Rows) > 0 {
			one := &f.Rows[r.Intn(len(f.Rows))]
			one.Args = append(one.Args, number(1))
			tamper(r, &one.Args[r.Intn(len(one.Args))])
			one.Args = pick(r, one.Args, one.Args[1:], one.Args[:len(one.Args)-1])
		}
	}
	return m
}

func tamper(r *rand.Rand, v *api.Value) {
	switch r.Intn(3) {
	case 0:
		v.Sort = r.Intn(4)
	case 1:
		v.N = someNumber(r)
	case 2:
		v.N = pick(r, api.Int{Neg: true}, api.Int{Mag: []uint32{0}}, api.Int{Mag: []uint32{api.Base}}, api.Int{Neg: true, Mag: []uint32{1, 0}}, whole.Of(2))
	}
}

func TestIsOfSome(t *testing.T) {
	r := rand.New(rand.NewSource(1))
	yes, no := 0, 0
	for range 20000 {
		m := someStructure(r)
		checkIs(t, "some", m, true)
		if r.Intn(2) == 0 {
			m = tampered(r, m)
		}
		if legal(m) {
			yes++
		} else {
			no++
		}
		checkIs(t, "some", m, legal(m))
	}
	if yes < 5000 || no < 5000 {
		t.Errorf("P12.1: %d are structures, %d aren't", yes, no)
	}
}

func TestIsOfMany(t *testing.T) {
	var m []api.Fun
	for n := range 20000 {
		m = append(m, function(signature("a"+strconv.Itoa(100000+n), api.SInt, api.SInt), number(int64(n))))
		m[0].Rows = append(m[0].Rows, row(number(int64(n)), number(int64(-n))))
	}
	checkIs(t, "many", m, true)
	checkEval(t, apply("a119999", api.SInt, num(5)), m, number(19999))
	checkEval(t, apply("a100000", api.SInt, num(-19999)), m, number(19999))
	m[0].Rows[19999].Args = nil
	checkIs(t, "many rows, the last one's Args", m, false)
	m[0].Rows = nil
	m[19999].Sig.Name = "a100000"
	checkIs(t, "many names, the last one the first", m, false)
}

func TestSame(t *testing.T) {
	all := []api.Value{{}, {Sort: 3}, {Sort: -1, N: whole.Of(1)}, truth(0), truth(1), truth(2), number(0), number(1), number(-1), number(2), number(1000000000), number(-1000000000), {Sort: api.SInt, N: long(1)}, {Sort: api.SInt, N: long(-1)}, {Sort: api.SInt, N: whole.Add(long(1), whole.Of(1))}}
	for i, a := range all {
		for j, b := range all {
			again := api.Value{Sort: b.Sort, N: api.Int{Neg: b.N.Neg, Mag: slices.Clone(b.N.Mag)}}
			if got := value.Same(a, again); got != (i == j) {
				t.Errorf("P12.1: %s and %s are the same: %t", outlineValues(a), outlineValues(b), got)
			}
		}
	}
	// what is no integer counts as 0, as with whole
	for _, n := range []api.Int{{Neg: true}, {Mag: []uint32{0}}, {Mag: []uint32{5, 0}}, {Neg: true, Mag: []uint32{api.Base}}} {
		a := api.Value{Sort: api.SInt, N: n}
		if !value.Same(a, number(0)) || !value.Same(number(0), a) || value.Same(a, number(5)) || value.Same(a, truth(0)) {
			t.Errorf("P12.1: %s isn't the same as 0", outlineValues(a))
		}
	}
}

func TestOf(t *testing.T) {
	one := []api.Value{number(1)}
	for of, c := range map[string]struct {
		s    api.Sig
		l    []api.Value
		want api.Value
	}{
		"a row": {signature("f", i, i), []api.Value{number(2)}, number(20)}, "the first of two rows": {signature("f", i, i), one, number(10)}, "a long one": {signature("f", i, i), []api.Value{{Sort: i, N: long(-1)}}, api.Value{Sort: i, N: long(1)}},
		"no row": {signature("f", i, i), []api.Value{number(3)}, number(-1)}, "its opposite": {signature("f", i, i), []api.Value{number(-2)}, number(-1)}, "a Bool, where a number is asked": {signature("f", i, i), []api.Value{truth(1)}, number(-1)}, "of no sort": {signature("f", i, i), []api.Value{{Sort: 3, N: whole.Of(1)}}, number(-1)},
		"too few": {signature("f", i, i), nil, number(-1)}, "too many": {signature("f", i, i), []api.Value{number(1), number(1)}, number(-1)}, "a row and more": {signature("f", i, i), []api.Value{number(2), truth(0)}, number(-1)},
		"two Args": {signature("g", b, i, b), []api.Value{number(7), truth(1)}, truth(1)}, "the second row": {signature("g", b, i, b), []api.Value{number(-3), truth(0)}, truth(1)}, "one alike": {signature("g", b, i, b), []api.Value{number(7), truth(0)}, truth(0)}, "the other alike": {signature("g", b, i, b), []api.Value{number(-3), truth(1)}, truth(0)}, "the other way round": {signature("g", b, i, b), []api.Value{truth(1), number(7)}, truth(0)},
		"three Args": {signature("h", i, b, b, i), []api.Value{truth(0), truth(1), number(0)}, number(7)}, "three Args, no row": {signature("h", i, b, b, i), []api.Value{truth(1), truth(1), number(0)}, number(5)}, "two of three Args": {signature("h", i, b, b, i), []api.Value{truth(0), truth(1)}, number(5)},
		"a constant": {signature("x", i), nil, number(7)}, "a constant with an empty list": {api.Sig{Name: "x", Args: []int{}, Ret: i}, []api.Value{}, number(7)}, "a constant of values": {signature("x", i), one, number(7)}, "a Bool": {signature("p", b), nil, truth(1)}, "the least name": {signature("!0", i), nil, number(-8)}, "the greatest name": {signature("z", i), nil, api.Value{Sort: i, N: long(-1)}},
		"a constant with rows": {signature("y", i), nil, number(-3)}, "a constant with rows, of values": {signature("y", i), one, number(5)}, "without rows": {signature("r", b, b), []api.Value{truth(0)}, truth(1)},
		"another Arg": {signature("f", i, b), one, number(0)}, "another Ret": {signature("f", b, i), one, truth(0)}, "more Args": {signature("f", i, i, i), one, number(0)}, "no Args": {signature("f", i), nil, number(0)}, "a constant of another sort": {signature("p", i), nil, number(0)}, "a constant with Args": {signature("x", i, i), one, number(0)}, "another order": {signature("g", b, b, i), []api.Value{truth(1), number(7)}, truth(0)}, "one Arg more": {signature("h", i, b, b, i, i), nil, number(0)},
		"another name": {signature("w", i), nil, number(0)}, "another Bool": {signature("w", b, i), one, truth(0)}, "behind all": {signature("~", i), nil, number(0)}, "ahead of all": {signature("!", i), nil, number(0)}, "no name": {signature("", b), nil, truth(0)}, "capitals": {signature("X", i), nil, number(0)}, "no symbol": {signature("x ", i), nil, number(0)},
		"no such Ret": {signature("x", 9), nil, api.Value{Sort: 9}}, "no Ret": {api.Sig{}, nil, api.Value{}}, "a Ret below 0": {signature("f", -1, i), one, api.Value{Sort: -1}}, "no such Arg": {signature("f", i, 9), one, number(0)},
	} {
		checkValue(t, "P12.1", of, value.Of(some(), c.s, c.l), c.want)
		checkValue(t, "P12.1", of+", in nothing", value.Of(nil, c.s, c.l), api.Value{Sort: c.s.Ret})
	}
	for _, n := range []api.Int{{Neg: true}, {Mag: []uint32{1, 0}}} {
		m := []api.Fun{function(signature("f", i, i), number(-1), row(number(8), number(1)), row(number(9), number(0)))}
		checkValue(t, "P12.1", "no integer counts as 0", value.Of(m, signature("f", i, i), []api.Value{{Sort: i, N: n}}), number(9))
	}
}

func TestOfSome(t *testing.T) {
	r := rand.New(rand.NewSource(2))
	rows := 0
	for range 20000 {
		m := someStructure(r)
		s := pick(r, names()...)
		var l []api.Value
		for _, sort := range s.Args {
			l = append(l, someValue(r, sort))
		}
		want := api.Value{Sort: s.Ret}
		for _, f := range m {
			if outlineSig(f.Sig) != outlineSig(s) {
				continue
			}
			want = f.Else
			for _, one := range slices.Backward(f.Rows) {
				if outlineValues(one.Args...) == outlineValues(l...) {
					want = one.V
					rows++
				}
			}
		}
		checkValue(t, "P12.1", outlineSig(s)+" of "+outlineValues(l...)+" in "+outline(m), value.Of(m, s, l), want)
	}
	if rows < 1000 {
		t.Errorf("P12.1: only %d rows were met", rows)
	}
}
