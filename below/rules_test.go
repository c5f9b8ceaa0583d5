package below_test

import (
	"fmt"
	"math/rand"
	"slices"
	"sync"
	"testing"

	"mullion/api"
	"mullion/below"
	"mullion/lin"
)

// everything gives values of all kinds: forms, and what is none.
func everything() []api.Lin {
	r := rand.New(rand.NewSource(6))
	out := append(ones(), wrongs()...)
	for range 60 {
		out = append(out, some(r, 5, 4))
	}
	return out
}

// answers gives each form that a call answers of l.
func answers(l api.Lin) []api.Lin {
	norm, _ := below.Norm(l)
	return []api.Lin{norm, below.Not(l)}
}

// told tells all that the calls answer of l.
func told(l api.Lin) string {
	_, out := below.Norm(l)
	text := fmt.Sprint(out)
	for _, answer := range answers(l) {
		text += "; " + number(answer.K).String()
		for _, m := range answer.T {
			text += fmt.Sprint(" ", m.V, " ", number(m.C))
		}
		if !lin.Is(answer) {
			text += " (no form)"
		}
	}
	for _, x := range points() {
		text += fmt.Sprint(" ", below.Holds(l, x), below.All([]api.Lin{l, form(-1), l}, x))
	}
	return text
}

func TestWrongOnes(t *testing.T) {
	for _, bad := range wrongs() {
		if got, class := below.Norm(bad); !equal(got, api.Lin{}) || class != api.Always {
			t.Errorf("P7.1: Norm(%v): %v, %d", bad, got, class)
		}
		if got := below.Not(bad); !equal(got, form(1)) {
			t.Errorf("P7.1: Not(%v): %v", bad, got)
		}
		for _, x := range points() {
			if !below.Holds(bad, x) || !below.All([]api.Lin{bad, form(-1), bad}, x) || below.All([]api.Lin{bad, form(1)}, x) {
				t.Errorf("P7.1: %v at %v: it counts as 0 at most 0", bad, x)
			}
		}
		if told(bad) != told(api.Lin{}) {
			t.Errorf("P7.1: %v: %s", bad, told(bad))
		}
	}
}

// TestWrongPoints puts what is no integer at each variable's place: it counts
// as 0.
func TestWrongPoints(t *testing.T) {
	for _, bad := range wrongInts() {
		for i, c := range []struct {
			l    api.Lin
			x    []api.Int
			want bool
		}{
			{form(0, 1), []api.Int{bad}, true},
			{form(0, -1), []api.Int{bad}, true},
			{form(1, 1), []api.Int{bad}, false},
			{form(1, -1), []api.Int{bad}, false},
			{form(-5, 1, 1), []api.Int{bad, small(5)}, true},
			{form(-4, 1, 1), []api.Int{bad, small(5)}, false},
			{form(-5, 1, -9), []api.Int{small(5), bad}, true},
			{form(-4, 1, -9), []api.Int{small(5), bad}, false},
		} {
			if below.Holds(c.l, c.x) != c.want || below.All([]api.Lin{c.l}, c.x) != c.want {
				t.Errorf("P7.1: row %d at %v: %t", i, c.x, !c.want)
			}
		}
	}
}

// lists gives every list of limbs that hangs on l.
func lists(l api.Lin) [][]uint32 {
	out := [][]uint32{l.K.Mag}
	for _, m := range l.T {
		out = append(out, m.C.Mag)
	}
	return out
}

func roomy(n api.Int) api.Int {
	all := append(slices.Clone(n.Mag), 11, 22, 33)
	return api.Int{Neg: n.Neg, Mag: all[:len(n.Mag)]}
}

// copied gives l on memory of its own, with spare room behind each list.
func copied(l api.Lin) api.Lin {
	var full []api.Mono
	for _, m := range l.T {
		full = append(full, api.Mono{V: m.V, C: roomy(m.C)})
	}
	full = append(full, times(5, 6), times(6, 7))
	return api.Lin{T: full[:len(l.T)], K: roomy(l.K)}
}

// memory tells all of a form's lists, with the room behind them.
func memory(l api.Lin) string {
	full := l.T[:cap(l.T)]
	out := fmt.Sprint(len(l.T), l.K.Neg, full)
	for _, list := range lists(api.Lin{T: full, K: l.K}) {
		out += fmt.Sprint(list[:cap(list)])
	}
	return out
}

// scribble writes over all that hangs on a form, and the room behind it.
func scribble(l api.Lin) {
	room := l.T[:cap(l.T)]
	for _, list := range lists(api.Lin{T: room, K: l.K}) {
		scribbleLimbs(list)
	}
	for i := range room {
		room[i] = api.Mono{V: -77, C: minus(123, 0)}
	}
}

func scribbleLimbs(l []uint32) {
	room := l[:cap(l)]
	for i := range room {
		room[i] = 123
	}
}

func TestArgumentsStay(t *testing.T) {
	for _, one := range everything() {
		l := copied(one)
		was := memory(l)
		told(l)
		for _, answer := range answers(l) {
			scribble(answer)
		}
		if memory(l) != was {
			t.Fatalf("P7.1: %v: it is changed, or an answer shares its memory", one)
		}
	}
}

// TestListsStay hands in lists of constraints and of values with spare room
// behind them.
func TestListsStay(t *testing.T) {
	constraints := []api.Lin{form(-3, 1), form(-9, 2, 4), {K: api.Int{Neg: true}}, form(-1), form(7), form(8)}
	values := []api.Int{roomy(plus(2)), roomy(minus(3)), {Neg: true}, plus(6, 0), plus(4), plus(9)}
	was := fmt.Sprint(constraints, values, values[0].Mag[:4])
	if !below.All(constraints[:4], values[:4]) || !below.Holds(constraints[1], values[:1]) {
		t.Error("P7.1: they hold")
	}
	if got := fmt.Sprint(constraints, values, values[0].Mag[:4]); got != was {
		t.Errorf("P7.1: All or Holds changes a list: %s", got)
	}
}

// TestAnswersAreNew writes over an answer's lists one by one: none is touched
// by what is done with another one, nor is a later answer.
func TestAnswersAreNew(t *testing.T) {
	for _, l := range everything() {
		want := told(l)
		var own, was [][]uint32
		for _, answer := range append(answers(l), answers(l)...) {
			own = append(own, lists(answer)...)
		}
		for _, list := range own {
			was = append(was, slices.Clone(list))
		}
		for i, list := range own {
			if !slices.Equal(list, was[i]) {
				t.Fatalf("P7.1: %v: list %d shares memory with another one", l, i)
			}
			scribbleLimbs(list)
		}
		if got := told(l); got != want {
			t.Fatalf("P7.1: %v: %s, then %s", l, want, got)
		}
	}
}

// TestFormsApart writes over an answer and the room behind it: those that are
// left, of the same call and of the other one, stay.
func TestFormsApart(t *testing.T) {
	for _, l := range everything() {
		own := append(answers(l), answers(l)...)
		var was []api.Lin
		for _, answer := range own {
			was = append(was, copied(answer))
		}
		for i, answer := range own {
			if !equal(answer, was[i]) {
				t.Fatalf("P7.1: %v: answer %d shares memory with another one", l, i)
			}
			scribble(answer)
		}
	}
}

func TestAtOnce(t *testing.T) {
	all := everything()
	want := make([]string, len(all))
	for i, l := range all {
		want[i] = told(l)
	}
	var wait sync.WaitGroup
	for range 4 {
		wait.Go(func() {
			for i, l := range all {
				if got := told(l); got != want[i] {
					t.Errorf("P7.1: %v: %s, at once with others %s", l, want[i], got)
				}
			}
		})
	}
	wait.Wait()
}
