package tree_test

import (
	"fmt"
	"math/rand"
	"slices"
	"sync"
	"testing"
	"unsafe"

	"mullion/api"
	"mullion/tree"
)

// answers tells all that the calls answer of a tree, and of its words.
func answers(in api.Tree) string {
	l, n, e := tree.Read(tree.Words(in))
	return fmt.Sprint(tree.Is(in), tree.Count(in), tree.Deep(in), tree.Words(in), outlines(l), n, e, tree.Same(in, in), tree.Same(in, list(in)))
}

// copyOf gives t in memory of its own, with room behind each list that isn't
// empty.
func copyOf(t api.Tree) api.Tree {
	kids := make([]api.Tree, 0, 2*len(t.Kids))
	for _, kid := range t.Kids {
		kids = append(kids, copyOf(kid))
	}
	room := kids[len(kids):cap(kids)]
	for i := range room {
		room[i] = symbol("room")
	}
	t.Kids = kids
	return t
}

// scribble writes over each list of the trees, and the room behind it.
func scribble(l []api.Tree) {
	for i := range l {
		scribble(l[i].Kids)
	}
	room := l[:cap(l)]
	for i := range room {
		room[i] = api.Tree{List: true, Tok: token(77, "scribble"), Kids: []api.Tree{{}, {}}}
	}
}

// TestArgumentsStay: trees and their kids stay as they are.
func TestArgumentsStay(t *testing.T) {
	for _, in := range everything() {
		mine := copyOf(in)
		if answers(mine) != answers(in) {
			t.Errorf("P9.1: %s: told otherwise with room behind it", outline(in))
		}
		if outline(mine) != outline(in) {
			t.Errorf("P9.1: %s is changed to %s", outline(in), outline(mine))
		}
	}
}

// TestReadWordsStay reads pieces of a list: what is behind them isn't read,
// nor changed.
func TestReadWordsStay(t *testing.T) {
	r := rand.New(rand.NewSource(8))
	for range 100 {
		var all []api.Token
		for range 20 {
			all = append(all, someToken(r))
		}
		was := slices.Clone(all)
		for n := range len(all) + 1 {
			got, at, e := tree.Read(all[:n])
			want, wantAt, wantE := tree.Read(slices.Clone(was[:n]))
			if outlines(got) != outlines(want) || at != wantAt || e != wantE {
				t.Fatalf("P9.2: %v: read otherwise with room behind it", was[:n])
			}
		}
		if !slices.Equal(all, was) {
			t.Fatalf("P9.2: %v is changed to %v", was, all)
		}
	}
}

// TestAnswersAreNew writes over what was handed in and over an answer, with the
// room behind: no other answer, earlier or later, is touched.
func TestAnswersAreNew(t *testing.T) {
	for _, in := range everything() {
		want := answers(in)
		mine := copyOf(in)
		told := tree.Words(mine)
		script := slices.Clone(told)
		read, _, _ := tree.Read(script)
		wantRead := outlines(read)
		scribble([]api.Tree{mine})
		scribbleWords(script)
		if !slices.Equal(told, tree.Words(in)) || outlines(read) != wantRead {
			t.Errorf("P9.2: %s: an answer keeps what was handed in", outline(in))
		}
		scribble(read)
		scribbleWords(told)
		if answers(in) != want {
			t.Errorf("P9.2: %s: an answer shares memory with another one", outline(in))
		}
	}
}

func scribbleWords(l []api.Token) {
	room := l[:cap(l)]
	for i := range room {
		room[i] = token(77, "scribble")
	}
}

// places tells where each list of the trees lies, with the room behind it.
func places(l []api.Tree) [][2]uintptr {
	var out [][2]uintptr
	if cap(l) > 0 {
		begin := uintptr(unsafe.Pointer(unsafe.SliceData(l)))
		out = append(out, [2]uintptr{begin, begin + uintptr(cap(l))*unsafe.Sizeof(api.Tree{})})
	}
	for _, t := range l[:cap(l)] { // what lies in the room counts as well
		out = append(out, places(t.Kids)...)
	}
	return out
}

// TestListsShareNothing: no two lists of one answer lie over one another, and
// the room behind a list leads to none of them.
func TestListsShareNothing(t *testing.T) {
	r := rand.New(rand.NewSource(9))
	for range 300 {
		var script []api.Token
		for range 1 + r.Intn(5) {
			script = append(script, tree.Words(someTree(r, 4))...)
		}
		read, _, _ := tree.Read(script)
		all := places(read)
		slices.SortFunc(all, func(a, b [2]uintptr) int { return int(int64(a[0]) - int64(b[0])) })
		for i := 1; i < len(all); i++ {
			if all[i][0] < all[i-1][1] {
				t.Fatalf("P9.2: two lists of one answer share memory: %s", outlines(read))
			}
		}
	}
}

// TestNothingIsKept asks in another order: no answer hangs on those before it.
func TestNothingIsKept(t *testing.T) {
	all := everything()
	want := make([]string, len(all))
	for i, in := range all {
		want[i] = answers(in)
	}
	for i, in := range slices.Backward(all) {
		tree.Read(lefts(i)) // what stays open, or is too deep, is forgotten
		if got := answers(in); got != want[i] {
			t.Errorf("P9.2: %s: %s, then %s", outline(in), want[i], got)
		}
	}
}

func TestAtOnce(t *testing.T) {
	all := everything()
	want := make([]string, len(all))
	for i, in := range all {
		want[i] = answers(in)
	}
	var wait sync.WaitGroup
	for range 4 {
		wait.Go(func() {
			for i, in := range all {
				if got := answers(in); got != want[i] {
					t.Errorf("P9.2: %s: %s, at once with others %s", outline(in), want[i], got)
				}
			}
		})
	}
	wait.Wait()
}
