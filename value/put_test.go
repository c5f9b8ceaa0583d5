package value_test

import (
	"math/rand"
	"slices"
	"strings"
	"testing"

	"mullion/api"
	"mullion/value"
)

func checkPut(t *testing.T, of string, m []api.Fun, name string, v api.Value, want []api.Fun) {
	t.Helper()
	if got := value.Put(m, name, v); outline(got) != outline(want) {
		t.Errorf("P12.3: %s: %s, not %s", of, brief(outline(got)), brief(outline(want)))
	}
}

// put gives m with f in the place of what is at that place and n - 1 behind it.
func put(m []api.Fun, at, n int, f api.Fun) []api.Fun {
	return slices.Concat(m[:at], []api.Fun{f}, m[at+n:])
}

func TestPut(t *testing.T) {
	far := api.Value{Sort: i, N: long(-1)}
	for _, v := range []api.Value{number(0), number(3), number(-2), far, truth(0), truth(1)} {
		for name, at := range map[string]int{"!": 0, "!00": 1, "!1": 1, "A": 1, "a": 1, "e": 1, "f0": 2, "ff": 2, "gg": 3, "m": 4, "o": 4, "pp": 5, "s": 7, "wwww": 7, "x0": 8, "yy": 9, "zz": 10, "~": 10, most: 1, "and": 1, "let": 4} {
			checkPut(t, name, some(), name, v, put(some(), at, 0, constant(name, v)))
		}
		for at, f := range some() {
			checkPut(t, f.Sig.Name, some(), f.Sig.Name, v, put(some(), at, 1, constant(f.Sig.Name, v)))
		}
		for of, m := range map[string][]api.Fun{"nothing": nil, "an empty list": {}, "no structure": {{}}, "no structure, the same name": {constant("x", truth(2))}, "the same name": {constant("x", number(9))}, "a function": {function(signature("x", b, i), truth(0), row(truth(1), number(3)))}} {
			checkPut(t, of, m, "x", v, []api.Fun{constant("x", v)})
		}
	}
}

// TestPutWhatIsNone: what is put stands there, also where no structure comes of
// it.
func TestPutWhatIsNone(t *testing.T) {
	for of, c := range map[string]struct {
		name string
		v    api.Value
		at   int
	}{
		"no name": {"", number(1), 0}, "no symbol": {"5", number(1), 1}, "a long name": {most + "0", number(1), 1}, "a very long name": {strings.Repeat("z", 5000), number(1), 10}, "no sort": {"a", api.Value{}, 1}, "no such sort": {"a", api.Value{Sort: 9}, 1}, "a Bool of 2": {"a", truth(2), 1},
	} {
		checkPut(t, of, some(), c.name, c.v, put(some(), c.at, 0, constant(c.name, c.v)))
		m := value.Put(some(), c.name, c.v)
		checkIs(t, of, m, false)
		checkEval(t, x(), m, number(0))
	}
}

// TestPutSome puts one behind the other, and holds all that is told there
// against what was put last.
func TestPutSome(t *testing.T) {
	r := rand.New(rand.NewSource(5))
	for range 300 {
		m := someStructure(r)
		want := map[string]api.Fun{}
		for _, f := range m {
			want[f.Sig.Name] = f
		}
		for range 20 {
			name, v := pick(r, "!0", "!1", "a", "f", "ff", "p", "x", "x1", "x2", "~", "~~", "B"), someValue(r, someSort(r))
			m = value.Put(m, name, v)
			want[name] = constant(name, v)
			checkEval(t, apply(name, v.Sort), m, v)
			var all []api.Fun
			for _, f := range want {
				all = append(all, f)
			}
			slices.SortFunc(all, func(a, b api.Fun) int { return strings.Compare(a.Sig.Name, b.Sig.Name) })
			if outline(m) != outline(all) || !value.Is(m) {
				t.Fatalf("P12.3: %s: %s, not %s", name, outline(m), outline(all))
			}
		}
	}
}
