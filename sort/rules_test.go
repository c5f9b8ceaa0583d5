package sort_test

import (
	"fmt"
	"math/rand"
	"slices"
	"sync"
	"testing"
	"unsafe"

	"mullion/api"
	"mullion/sort"
	"mullion/term"
)

// answers tells all that the calls answer of a tree.
func answers(in api.Tree, l []api.Sig) string {
	n, e := sort.Sort(in)
	out, g := sort.Term(in, l)
	return fmt.Sprint(n, e, outline(out), g, outlineTree(sort.Tree(out)), sort.Reserved(in.Tok.Text))
}

// copyOfTree gives t in memory of its own, with room behind each list that isn't
// empty.
func copyOfTree(t api.Tree) api.Tree {
	kids := make([]api.Tree, 0, 2*len(t.Kids))
	for _, kid := range t.Kids {
		kids = append(kids, copyOfTree(kid))
	}
	room := kids[len(kids):cap(kids)]
	for i := range room {
		room[i] = symbol("room")
	}
	t.Kids = kids
	return t
}

func copyOfTerm(t api.Term) api.Term {
	t.N.Mag = append(append(make([]uint32, 0, 2*len(t.N.Mag)), t.N.Mag...), slices.Repeat([]uint32{77}, len(t.N.Mag))...)[:len(t.N.Mag)]
	kids := make([]api.Term, 0, 2*len(t.Kids))
	for _, kid := range t.Kids {
		kids = append(kids, copyOfTerm(kid))
	}
	room := kids[len(kids):cap(kids)]
	for i := range room {
		room[i] = apply("room", api.SInt)
	}
	t.Kids = kids
	return t
}

// scribbleTrees writes over each list of the trees, and the room behind it.
func scribbleTrees(l []api.Tree) {
	for i := range l {
		scribbleTrees(l[i].Kids)
	}
	room := l[:cap(l)]
	for i := range room {
		room[i] = api.Tree{List: true, Tok: api.Token{Kind: 77, Text: "scribble"}, Kids: []api.Tree{{}, {}}}
	}
}

func scribbleTerms(l []api.Term) {
	for i := range l {
		limbs := l[i].N.Mag[:cap(l[i].N.Mag)]
		for j := range limbs {
			limbs[j] = 123456
		}
		scribbleTerms(l[i].Kids)
	}
	room := l[:cap(l)]
	for i := range room {
		room[i] = api.Term{Op: 77, Name: "scribble", Sort: 77, N: api.Int{Neg: true}, Kids: []api.Term{{}, {}}}
	}
}

func scribbleSigs(l []api.Sig) {
	for i := range l {
		for j := range l[i].Args {
			l[i].Args[j] = 77
		}
		l[i] = api.Sig{Name: "scribble", Ret: 77}
	}
}

// TestArgumentsStay: trees, Sigs and terms stay as they are.
func TestArgumentsStay(t *testing.T) {
	l := declared()
	for _, in := range everything(t) {
		mine := copyOfTree(in)
		room := outlineTree(api.Tree{Kids: mine.Kids[:cap(mine.Kids)]})
		if answers(mine, l) != answers(in, declared()) {
			t.Errorf("P11.2: %s: told otherwise with room behind it", brief(outlineTree(in)))
		}
		if outlineTree(mine) != outlineTree(in) || outlineTree(api.Tree{Kids: mine.Kids[:cap(mine.Kids)]}) != room {
			t.Errorf("P11.2: %s is changed to %s", brief(outlineTree(in)), brief(outlineTree(mine)))
		}
		out, _ := sort.Term(in, l)
		kept := copyOfTerm(out)
		room = outline(api.Term{Kids: kept.Kids[:cap(kept.Kids)]})
		sort.Tree(kept)
		if outline(kept) != outline(out) || outline(api.Term{Kids: kept.Kids[:cap(kept.Kids)]}) != room {
			t.Errorf("P11.3: %s is changed", brief(outline(out)))
		}
	}
	if fmt.Sprint(l) != fmt.Sprint(declared()) {
		t.Errorf("P11.2: the Sigs are changed to %v", l)
	}
}

// TestRoomOfSigs: Sigs behind the end of a list aren't declared.
func TestRoomOfSigs(t *testing.T) {
	l := declared()
	for n := range l {
		in := read(t, "(+ x (f y) (h p z "+most+"))")
		want, e := meant(in, slices.Clone(l[:n]), nil)
		checkTerm(t, "some Sigs", in, l[:n], want, e)
	}
}

// TestAnswersAreNew writes over what was handed in and over answers, with the
// room behind: no other answer, earlier or later, is touched.
func TestAnswersAreNew(t *testing.T) {
	for _, in := range everything(t) {
		want := answers(in, declared())
		mine, l := copyOfTree(in), declared()
		first, _ := sort.Term(mine, l)
		second, _ := sort.Term(mine, l)
		told := sort.Tree(first)
		wantTerm, wantTree := outline(first), outlineTree(told)
		scribbleTrees([]api.Tree{mine})
		scribbleSigs(l)
		if outline(first) != wantTerm {
			t.Errorf("P11.2: %s: an answer keeps what was handed in", brief(outlineTree(in)))
		}
		scribbleTerms([]api.Term{first})
		if outline(second) != wantTerm || outlineTree(told) != wantTree {
			t.Errorf("P11.2: %s: an answer shares memory with another one", brief(outlineTree(in)))
		}
		scribbleTrees([]api.Tree{told})
		if outline(second) != wantTerm || answers(in, declared()) != want {
			t.Errorf("P11.3: %s: an answer shares memory with another one", brief(outlineTree(in)))
		}
	}
}

// span tells where a list lies, with the room behind it.
func span[T any](l []T) [][2]uintptr {
	if cap(l) == 0 {
		return nil
	}
	var one T
	begin := uintptr(unsafe.Pointer(unsafe.SliceData(l)))
	return [][2]uintptr{{begin, begin + uintptr(cap(l))*unsafe.Sizeof(one)}}
}

// places tells where each list of the terms lies; what lies in the room counts
// as well.
func places(l []api.Term) [][2]uintptr {
	out := span(l)
	for _, t := range l[:cap(l)] {
		out = append(out, span(t.N.Mag)...)
		out = append(out, places(t.Kids)...)
	}
	return out
}

func placesOfTrees(l []api.Tree) [][2]uintptr {
	out := span(l)
	for _, t := range l[:cap(l)] {
		out = append(out, placesOfTrees(t.Kids)...)
	}
	return out
}

func checkApart(t *testing.T, of string, all [][2]uintptr) {
	t.Helper()
	slices.SortFunc(all, func(a, b [2]uintptr) int { return int(int64(a[0]) - int64(b[0])) })
	for i := 1; i < len(all); i++ {
		if all[i][0] < all[i-1][1] {
			t.Errorf("P11.2: two lists of one answer share memory: %s", brief(of))
			return
		}
	}
}

// TestListsShareNothing: no two lists of one answer lie over one another, also
// where a name that a let binds to them comes twice.
func TestListsShareNothing(t *testing.T) {
	in := everything(t)
	for _, s := range []string{"(let ((a 5)) (+ a a a))", "(let ((a (+ x 1 2))) (- a a))", "(let ((a (+ x 1 2))) (let ((b a) (c a)) (f (+ a b c))))", "(let ((a (f 1))) (h p a a))", "(let ((a p)) (= a a))"} {
		in = append(in, read(t, s))
	}
	for _, one := range in {
		out, _ := sort.Term(one, declared())
		checkApart(t, outline(out), places([]api.Term{out}))
		told := sort.Tree(out)
		checkApart(t, outlineTree(told), placesOfTrees([]api.Tree{told}))
	}
	shared := sum(number(-5), number(6))
	told := sort.Tree(sum(shared, shared, f(shared)))
	checkApart(t, outlineTree(told), placesOfTrees([]api.Tree{told}))
}

// TestNothingIsKept asks in another order, with other Sigs between: no answer
// hangs on those before it.
func TestNothingIsKept(t *testing.T) {
	all := everything(t)
	want := make([]string, len(all))
	for i, in := range all {
		want[i] = answers(in, declared())
	}
	for i, in := range slices.Backward(all) {
		answers(in, nil)
		answers(in, []api.Sig{signature("x", api.SBool), signature("a", api.SInt), signature("f", api.SInt)})
		if got := answers(in, declared()); got != want[i] {
			t.Errorf("P11.2: %s: %s, then %s", brief(outlineTree(in)), want[i], got)
		}
	}
}

func TestAtOnce(t *testing.T) {
	all, l := everything(t), declared()
	want := make([]string, len(all))
	for i, in := range all {
		want[i] = answers(in, l)
	}
	var wait sync.WaitGroup
	for range 4 {
		wait.Go(func() {
			for i, in := range all {
				if got := answers(in, l); got != want[i] {
					t.Errorf("P11.2: %s: %s, at once with others %s", brief(outlineTree(in)), want[i], got)
				}
			}
		})
	}
	wait.Wait()
}

// TestUntidy takes trees and terms of any make: each call comes back, and only
// what is a term is answered.
func TestUntidy(t *testing.T) {
	r := rand.New(rand.NewSource(5))
	for range 20000 {
		in := untidy(r, 4)
		out, e := sort.Term(in, declared())
		if term.Is(out) != (e == api.OK) || e != api.OK && outline(out) != outline(api.Term{}) {
			t.Errorf("P11.2: %s: %s, %v", outlineTree(in), outline(out), e)
		}
		n, e := sort.Sort(in)
		if (n == 0) != (e == api.ErrForm) || n != 0 && e != api.OK {
			t.Errorf("P11.1: %s: %d, %v", outlineTree(in), n, e)
		}
	}
}

// untidy gives what is a tree or not: Lists with a Tok, words with Kids, Kinds
// that there aren't.
func untidy(r *rand.Rand, n int) api.Tree {
	t := api.Tree{List: n > 0 && r.Intn(3) > 0}
	if !t.List || r.Intn(40) == 0 {
		kind := pick(r, api.TSymbol, api.TSymbol, api.TSymbol, api.TSymbol, api.TNumber, api.TNumber, api.TKey, r.Intn(8)-1)
		text := pick(r, "x", "p", "f", "+", "not", "let", "Int", "true", "w", "5", "0", "", "a b")
		if kind == api.TNumber {
			text = pick(r, "5", "0", "12", "12", "x", "05")
		}
		t.Tok = api.Token{Kind: kind, Text: text}
	}
	if t.List {
		t.Kids = append(t.Kids, symbol(pick(r, "+", "-", "f", "not", "let", "w")))
	}
	if t.List || r.Intn(40) == 0 {
		for range r.Intn(4) {
			t.Kids = append(t.Kids, untidy(r, n-1))
		}
	}
	return t
}
