package term_test

import (
	"fmt"
	"math/rand"
	"slices"
	"sync"
	"testing"
	"unsafe"

	"mullion/api"
	"mullion/term"
	"mullion/whole"
)

// answers tells all that the calls answer of a term.
func answers(in api.Term) string {
	sigs, alike := term.Sigs(in)
	out := fmt.Sprint(outline(term.Num(in.N)), term.Is(in), term.Count(in), outlineSigs(sigs), alike, term.Same(in, in), term.Same(in, negative(in)))
	for _, op := range []int{api.ONot, api.OAbs, api.ODistinct, in.Op} {
		made, e := term.Make(op, []api.Term{in})
		out += fmt.Sprint(outline(made), e)
	}
	made, e := term.Make(in.Op, in.Kids)
	out += fmt.Sprint(outline(made), e)
	made, e = term.App(api.Sig{Name: in.Name, Args: sortsOf(in.Kids), Ret: in.Sort}, in.Kids)
	return out + fmt.Sprint(outline(made), e)
}

// copyOf gives t in memory of its own, with room behind each list that isn't
// empty.
func copyOf(t api.Term) api.Term {
	t.N.Mag = append(append(make([]uint32, 0, 2*len(t.N.Mag)), t.N.Mag...), slices.Repeat([]uint32{77}, len(t.N.Mag))...)[:len(t.N.Mag)]
	kids := make([]api.Term, 0, 2*len(t.Kids))
	for _, kid := range t.Kids {
		kids = append(kids, copyOf(kid))
	}
	room := kids[len(kids):cap(kids)]
	for i := range room {
		room[i] = constant("room", api.SInt)
	}
	t.Kids = kids
	return t
}

// scribble writes over each list of the terms, and the room behind it.
func scribble(l []api.Term) {
	for i := range l {
		limbs := l[i].N.Mag[:cap(l[i].N.Mag)]
		for j := range limbs {
			limbs[j] = 123456
		}
		scribble(l[i].Kids)
	}
	room := l[:cap(l)]
	for i := range room {
		room[i] = api.Term{Op: 77, Name: "scribble", Sort: 77, N: api.Int{Neg: true}, Kids: []api.Term{{}, {}}}
	}
}

func scribbleSigs(l []api.Sig) {
	for _, s := range l {
		room := s.Args[:cap(s.Args)]
		for i := range room {
			room[i] = 77
		}
	}
	room := l[:cap(l)]
	for i := range room {
		room[i] = api.Sig{Name: "scribble", Ret: 77}
	}
}

// TestArgumentsStay: terms and what hangs on them stay as they are.
func TestArgumentsStay(t *testing.T) {
	for _, in := range everything() {
		mine := copyOf(in)
		room := outlines(mine.Kids[:cap(mine.Kids)])
		if answers(mine) != answers(in) {
			t.Errorf("P10.2: %s: told otherwise with room behind it", brief(in))
		}
		if outline(mine) != outline(in) || outlines(mine.Kids[:cap(mine.Kids)]) != room {
			t.Errorf("P10.2: %s is changed to %s", brief(in), brief(mine))
		}
	}
	s := api.Sig{Name: "f", Args: []int{api.SInt, api.SInt, 77}[:2], Ret: api.SInt}
	if _, e := term.App(s, []api.Term{x(), x()}); e != api.OK || !term.IsSig(s) || !slices.Equal(s.Args[:3], []int{api.SInt, api.SInt, 77}) {
		t.Errorf("P10.2: %v, %v", e, s.Args[:3])
	}
}

// made gives what the calls make of in, such as has lists of its own.
func made(in api.Term) []api.Term {
	var out []api.Term
	one, _ := term.Make(in.Op, in.Kids)
	two, _ := term.App(api.Sig{Name: in.Name, Args: sortsOf(in.Kids), Ret: in.Sort}, in.Kids)
	three, _ := term.Make(api.ODistinct, []api.Term{in, in, in})
	four, _ := term.App(api.Sig{Name: "f", Args: []int{in.Sort, in.Sort}, Ret: api.SInt}, []api.Term{in, in})
	return append(out, one, two, three, four, term.Num(in.N))
}

// TestAnswersAreNew writes over what was handed in and over answers, with the
// room behind: no other answer, earlier or later, is touched.
func TestAnswersAreNew(t *testing.T) {
	for _, in := range everything() {
		want, wantMade := answers(in), outlines(made(in))
		sigs, _ := term.Sigs(in)
		wantSigs := outlineSigs(sigs)
		mine := copyOf(in)
		first, second := made(mine), made(mine)
		mySigs, _ := term.Sigs(mine)
		scribble([]api.Term{mine})
		if outlines(first) != wantMade || outlineSigs(mySigs) != wantSigs {
			t.Errorf("P10.2: %s: an answer keeps what was handed in", brief(in))
		}
		scribble(first)
		scribbleSigs(mySigs)
		again, _ := term.Sigs(in)
		if outlines(second) != wantMade || answers(in) != want || outlineSigs(again) != wantSigs {
			t.Errorf("P10.2: %s: an answer shares memory with another one", brief(in))
		}
	}
}

// span tells where a list lies, with the room behind it.
func span[T any](l []T) [][2]uintptr {
	if cap(l) == 0 {
		return nil
	}
	var one T
	begin := uintptr(unsafe.Pointer(unsafe.SliceData(l)))
	return [][2]uintptr{{begin, begin + uintptr(cap(l))*unsafe.Sizeof(one)}}
}

// places tells where each list of the terms lies; what lies in the room counts
// as well.
func places(l []api.Term) [][2]uintptr {
	out := span(l)
	for _, t := range l[:cap(l)] {
		out = append(out, span(t.N.Mag)...)
		out = append(out, places(t.Kids)...)
	}
	return out
}

func checkApart(t *testing.T, of string, all [][2]uintptr) {
	t.Helper()
	slices.SortFunc(all, func(a, b [2]uintptr) int { return int(int64(a[0]) - int64(b[0])) })
	for i := 1; i < len(all); i++ {
		if all[i][0] < all[i-1][1] {
			t.Errorf("P10.2: two lists of one answer share memory: %s", of)
			return
		}
	}
}

// TestListsShareNothing: no two lists of one answer lie over one another, also
// where the kids that are handed in do.
func TestListsShareNothing(t *testing.T) {
	r := rand.New(rand.NewSource(10))
	for range 300 {
		in := someTerm(r, api.SInt, 3)
		for _, out := range made(in) {
			checkApart(t, outline(out), places([]api.Term{out}))
		}
		sigs, _ := term.Sigs(in)
		all := span(sigs)
		for _, s := range sigs[:cap(sigs)] {
			all = append(all, span(s.Args)...)
		}
		checkApart(t, outlineSigs(sigs), all)
	}
	big := term.Num(whole.Mul(whole.Of(1<<62), whole.Of(1<<62)))
	sum := must(t, api.OAdd, big, big, negative(big), negative(big))
	checkApart(t, "one number at each place", places([]api.Term{sum}))
	checkApart(t, "one sum at each place", places([]api.Term{must(t, api.OSub, sum, sum, big)}))
	checkApart(t, "one memory", places([]api.Term{must(t, api.OAdd, doubled(5, big), doubled(5, big))}))
}

// TestNothingIsKept asks in another order: no answer hangs on those before it.
func TestNothingIsKept(t *testing.T) {
	all := everything()
	want := make([]string, len(all))
	for i, in := range all {
		want[i] = answers(in)
	}
	for i, in := range slices.Backward(all) {
		if got := answers(in); got != want[i] {
			t.Errorf("P10.2: %s: %s, then %s", brief(in), want[i], got)
		}
	}
}

func TestAtOnce(t *testing.T) {
	all := everything()
	want := make([]string, len(all))
	for i, in := range all {
		want[i] = answers(in)
	}
	var wait sync.WaitGroup
	for range 4 {
		wait.Go(func() {
			for i, in := range all {
				if got := answers(in); got != want[i] {
					t.Errorf("P10.2: %s: %s, at once with others %s", brief(in), want[i], got)
				}
			}
		})
	}
	wait.Wait()
}
