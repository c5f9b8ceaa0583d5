package tree

import "mullion/api"

// Read gives the trees of l, one behind the other, and how many words l has;
// else the number of the word that is the first error: ErrForm of a Kind that
// there isn't, of a TRight too many; ErrDeep, ErrLarge of the word with which a
// tree goes too deep, has too many nodes; ErrShort, behind all words, if a List
// lacks its TRight.
func Read(l []api.Token) ([]api.Tree, int, api.Errno) {
	var r reader
	for i, word := range l {
		if e := r.fault(word.Kind); e != api.OK {
			return nil, i, e
		}
		r.take(word)
	}
	if len(r.opened) > 0 {
		return nil, len(l), api.ErrShort
	}
	return copied(r.row), len(l), api.OK
}

// reader: the words that are read so far.
type reader struct {
	row    []api.Tree // the whole trees, then the kids of each open List, the outermost first
	opened []int      // where in row the kids of each open List begin
	nodes  int        // of the tree that isn't whole yet
}

// fault tells what forbids a word of that kind here.
func (r *reader) fault(kind int) api.Errno {
	switch {
	case kind < api.TLeft || kind > api.TKey:
		return api.ErrForm
	case kind == api.TRight && len(r.opened) == 0:
		return api.ErrForm
	case kind == api.TLeft && len(r.opened) == api.MaxDeep:
		return api.ErrDeep
	case kind != api.TRight && r.nodes == api.MaxNodes:
		return api.ErrLarge
	}
	return api.OK
}

// take reads a word that nothing forbids.
func (r *reader) take(word api.Token) {
	switch word.Kind {
	case api.TLeft:
		r.opened = append(r.opened, len(r.row))
		r.nodes++
	case api.TRight:
		r.shut()
	default:
		r.row = append(r.row, api.Tree{Tok: word})
		r.nodes++
	}
	if len(r.opened) == 0 {
		r.nodes = 0
	}
}

// shut puts the innermost open List, whole now, in the place of its kids.
func (r *reader) shut() {
	innermost := len(r.opened) - 1
	begin := r.opened[innermost]
	whole := list(r.row[begin:]...)
	r.opened = r.opened[:innermost]
	r.row = append(r.row[:begin], whole)
}

// list makes a List of however many kids.
func list(kids ...api.Tree) api.Tree { return api.Tree{List: true, Kids: copied(kids)} }

// copied gives the trees in memory of their own: the reader writes over its
// row, and what stood there once is still in the row's spare room.
func copied(trees []api.Tree) []api.Tree { return append([]api.Tree(nil), trees...) }
