package sheet_test

import (
	"bytes"
	"slices"

	"quoin/api"
	"quoin/shade"
)

// A paper is a sheet by the chapter's words alone: its text is plain bytes, its buffers are plain too, and what is looked for in its tree is counted piece by piece.
type paper struct {
	text            []byte
	original, added []byte
	tree            shade.Tree
	edits           int
}

func newPaper(text string) *paper {
	w := &paper{text: []byte(text), original: []byte(text)}
	if text != "" {
		w.tree = shade.Join(shade.Tree{}, w.piece(o(0, len(text))), shade.Tree{})
	}
	return w
}

func (w *paper) held(s api.Span) []byte {
	if s.Src == api.Original {
		return w.original[s.Off : s.Off+s.Len]
	}
	return w.added[s.Off : s.Off+s.Len]
}

func (w *paper) piece(s api.Span) api.Piece {
	return api.Piece{Span: s, Lines: bytes.Count(w.held(s), []byte("\n"))}
}

func listOf(tree shade.Tree) []api.Piece {
	var list []api.Piece
	for _, p := range tree.All() {
		list = append(list, p)
	}
	return list
}

func (w *paper) spans() []api.Span {
	var spans []api.Span
	for _, p := range listOf(w.tree) {
		spans = append(spans, p.Span)
	}
	return spans
}

func (w *paper) cut(tree shade.Tree, off int) (shade.Tree, shade.Tree) {
	var empty shade.Tree
	list := listOf(tree)
	length := 0
	for _, p := range list {
		length += p.Span.Len
	}
	if off == 0 {
		return empty, tree
	}
	if off == length {
		return tree, empty
	}
	k, inside := 0, off
	for inside >= list[k].Span.Len {
		inside -= list[k].Span.Len
		k++
	}
	first, rest, _ := tree.Split(k)
	if inside == 0 {
		return first, rest
	}
	_, behind, _ := tree.Split(k + 1)
	s := list[k].Span
	a := w.piece(api.Span{Src: s.Src, Off: s.Off, Len: inside})
	b := w.piece(api.Span{Src: s.Src, Off: s.Off + inside, Len: s.Len - inside})
	return shade.Join(first, a, empty), shade.Join(empty, b, behind)
}

func follows(first, second api.Span) bool {
	return first.Src == second.Src && first.Off+first.Len == second.Off
}

func (w *paper) putIn(at int, p []byte) {
	if len(p) == 0 {
		return
	}
	s := a(len(w.added), len(p))
	w.added = append(w.added, p...)
	left, right := w.cut(w.tree, at)
	if list := listOf(left); len(list) > 0 {
		m := len(list) - 1
		if last := list[m].Span; follows(last, s) {
			s = a(last.Off, last.Len+s.Len)
			left, _, _ = left.Split(m)
		}
	}
	w.tree = shade.Join(left, w.piece(s), right)
	w.text = slices.Concat(w.text[:at], p, w.text[at:])
	w.edits++
}

func (w *paper) takeOut(from, to int) {
	if from == to {
		return
	}
	first, right := w.cut(w.tree, to)
	left, _ := w.cut(first, from)
	w.tree = w.together(left, right)
	w.text = slices.Concat(w.text[:from], w.text[to:])
	w.edits++
}

func (w *paper) together(left, right shade.Tree) shade.Tree {
	l, r := listOf(left), listOf(right)
	if len(l) == 0 || len(r) == 0 || !follows(l[len(l)-1].Span, r[0].Span) {
		return shade.Join(left, api.Piece{}, right)
	}
	s := l[len(l)-1].Span
	s.Len += r[0].Span.Len
	first, _, _ := left.Split(len(l) - 1)
	_, rest, _ := right.Split(1)
	return shade.Join(first, w.piece(s), rest)
}

func (w *paper) fits(e api.Edit) bool {
	return e.At >= 0 && e.At <= len(w.text) && bytes.HasPrefix(w.text[e.At:], e.Old)
}

// apply works on a copy, so that a list that is refused leaves nothing behind.
func (w *paper) apply(edits []api.Edit) api.Errno {
	copied := *w
	copied.added = slices.Clone(w.added)
	for _, e := range edits {
		if !copied.fits(e) {
			return api.ErrEdit
		}
		copied.takeOut(e.At, e.At+len(e.Old))
		copied.putIn(e.At, e.New)
	}
	*w = copied
	return api.OK
}

// starts are where the lines of a text begin.
func starts(text []byte) []int {
	list := []int{0}
	for at, c := range text {
		if c == '\n' {
			list = append(list, at+1)
		}
	}
	return list
}
