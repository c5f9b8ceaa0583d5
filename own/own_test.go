package own_test

import (
	"fmt"
	"slices"
	"testing"
	"unsafe"

	"mullion/api"
	"mullion/own"
)

// Everything below lies on these few lists, more than once.

func shared() (api.Term, []api.Fun) {
	n := api.Int{Neg: true, Mag: append(make([]uint32, 0, 9), 7, 0)} // no number: it comes back as it stands
	leaf := api.Term{Op: 77, N: n, Name: "leaf", Sort: -3}
	kids := append(make([]api.Term, 0, 9), leaf, leaf, api.Term{Kids: []api.Term{}})
	v := api.Value{Sort: 9, N: n}
	values := append(make([]api.Value, 0, 9), v, v)
	rows := append(make([]api.Row, 0, 9), api.Row{Args: values, V: v}, api.Row{Args: values, V: v}, api.Row{})
	f := api.Fun{Sig: api.Sig{Name: "f g", Args: append(make([]int, 0, 9), 1, 2, 3, 4), Ret: 5}, Rows: rows, Else: v}
	t := api.Term{Op: 1, N: n, Name: "t", Kids: []api.Term{{Op: 2, Kids: kids}, {Op: 3, Kids: kids}}}
	return t, append(make([]api.Fun, 0, 9), f, f, api.Fun{})
}

func TestAsItStands(t *testing.T) {
	in, m := shared()
	leaf := in.Kids[0].Kids[0]
	for _, c := range []struct{ got, want any }{
		{own.Int(in.N), in.N}, {own.Term(in), in}, {own.Terms(in, leaf, in), []api.Term{in, leaf, in}}, {own.Terms(), []api.Term{}}, {own.Value(m[0].Else), m[0].Else},
		{own.Values(m[0].Rows[0].Args...), m[0].Rows[0].Args}, {own.Sig(m[0].Sig), m[0].Sig}, {own.Funs(m...), m}, {own.Funs(), []api.Fun{}}, {own.Term(api.Term{}), api.Term{}}, {own.Int(api.Int{}), api.Int{}},
	} {
		if fmt.Sprintf("%v", c.got) != fmt.Sprintf("%v", c.want) {
			t.Errorf("%v is given as %v", c.want, c.got)
		}
	}
}

// span tells where a list lies, with the room behind it.
func span[T any](l []T) [][2]uintptr {
	if cap(l) == 0 {
		return nil
	}
	var one T
	begin := uintptr(unsafe.Pointer(unsafe.SliceData(l)))
	return [][2]uintptr{{begin, begin + uintptr(cap(l))*unsafe.Sizeof(one)}}
}

func spansOfTerms(l []api.Term) [][2]uintptr {
	out := span(l)
	for _, t := range l[:cap(l)] {
		out = slices.Concat(out, span(t.N.Mag), spansOfTerms(t.Kids))
	}
	return out
}

func spansOfValues(l []api.Value) [][2]uintptr {
	out := span(l)
	for _, v := range l[:cap(l)] {
		out = append(out, span(v.N.Mag)...)
	}
	return out
}

func spansOfFuns(m []api.Fun) [][2]uintptr {
	out := span(m)
	for _, f := range m[:cap(m)] {
		out = slices.Concat(out, span(f.Sig.Args), span(f.Rows), span(f.Else.N.Mag))
		for _, row := range f.Rows[:cap(f.Rows)] {
			out = slices.Concat(out, spansOfValues(row.Args), span(row.V.N.Mag))
		}
	}
	return out
}

func overlap(all [][2]uintptr) bool {
	slices.SortFunc(all, func(a, b [2]uintptr) int { return int(int64(a[0]) - int64(b[0])) })
	for i := 1; i < len(all); i++ {
		if all[i][0] < all[i-1][1] {
			return true
		}
	}
	return false
}

// TestMemory: no two lists of an answer lie over one another, nor on those that
// were given.
func TestMemory(t *testing.T) {
	in, m := shared()
	terms, values, s := own.Terms(in, in), own.Values(m[0].Rows[0].Args...), own.Sig(m[0].Sig)
	answers := slices.Concat(spansOfTerms(terms), spansOfTerms([]api.Term{own.Term(in)}), span(own.Int(in.N).Mag), spansOfValues(values), span(own.Value(m[0].Else).N.Mag), span(s.Args), spansOfFuns(own.Funs(m...)))
	if len(answers) < 50 || overlap(answers) {
		t.Errorf("%d lists of answers share memory", len(answers))
	}
	given := slices.Concat(span(in.Kids), span(in.N.Mag), span(in.Kids[0].Kids), span(m), span(m[0].Rows), span(m[0].Rows[0].Args), span(m[0].Sig.Args))
	if overlap(given) || overlap(slices.Concat(answers, given)) {
		t.Error("answers lie on what was given")
	}
}
