package sheet

import (
	"quoin/addbuf"
	"quoin/api"
	"quoin/shade"
)

// putIn is a primitive edit, if p has bytes; at is a place of the text.
func (s *Sheet) putIn(at int, p []byte) {
	if len(p) == 0 {
		return
	}
	left, right := s.cut(s.tree, at)
	// What is typed byte by byte stays one piece so.
	left, added, _ := joinLast(left, s.piece(s.buffer.Add(p)))
	s.tree = shade.Join(left, added, right)
	s.edits++
}

// takeOut is a primitive edit, if from is below to; both are places of the text.
func (s *Sheet) takeOut(from, to int) {
	if from == to {
		return
	}
	left, right := s.cut(s.tree, to)
	left, _ = s.cut(left, from)
	s.tree = meet(left, right)
	s.edits++
}

// meet puts two trees together, and makes one of the two pieces that meet there, if they join.
func meet(left, right shade.Tree) shade.Tree {
	first, e := right.Get(0)
	shorter, joined, ok := joinLast(left, first)
	if e != api.OK || !ok {
		return shade.Join(left, api.Piece{}, right)
	}
	_, right, _ = right.Split(1)
	return shade.Join(shorter, joined, right)
}

// joinLast makes one of the last piece of a tree and a piece that comes behind the tree, if their spans join:
// it tells the tree without its last piece and the piece made of both, else the two as they are.
func joinLast(tree shade.Tree, p api.Piece) (shade.Tree, api.Piece, bool) {
	m := tree.Len() - 1
	last, e := tree.Get(m)
	span, ok := addbuf.Joins(last.Span, p.Span)
	if e != api.OK || !ok {
		return tree, p, false
	}
	shorter, _, _ := tree.Split(m)
	return shorter, api.Piece{Span: span, Lines: last.Lines + p.Lines}, true
}

// cut: the tree of the bytes ahead of off, and that of the others; off is 0 to their number.
func (s *Sheet) cut(tree shade.Tree, off int) (left, right shade.Tree) {
	// At both ends the tree stays as it is; Split there would join it anew.
	switch off {
	case 0:
		return shade.Tree{}, tree
	case tree.Bytes():
		return tree, shade.Tree{}
	}
	k, inside, _ := tree.Find(off)
	left, right, _ = tree.Split(k)
	if inside == 0 {
		return left, right
	}
	p, _ := tree.Get(k)
	_, right, _ = tree.Split(k + 1)
	first, rest := s.cutPiece(p, inside)
	return shade.Join(left, first, shade.Tree{}), shade.Join(shade.Tree{}, rest, right)
}

func (s *Sheet) piece(span api.Span) api.Piece {
	lines, _ := s.buffer.Lines(span)
	return api.Piece{Span: span, Lines: lines}
}

// cutPiece counts the line ends of the first part alone: the others are the rest's.
func (s *Sheet) cutPiece(p api.Piece, inside int) (first, rest api.Piece) {
	one, two, _ := addbuf.Cut(p.Span, inside)
	first = s.piece(one)
	return first, api.Piece{Span: two, Lines: p.Lines - first.Lines}
}

// read is for places that the text has. It begins at the piece that holds from, and ends with the one that reaches to.
func (s *Sheet) read(from, to int) []byte {
	if from == to {
		return nil
	}
	place, inside, _ := s.tree.Find(from)
	text := make([]byte, 0, to-from)
	_, tree, _ := s.tree.Split(place)
	for _, p := range tree.All() {
		_, span, _ := addbuf.Cut(p.Span, inside)
		inside = 0
		span.Len = min(span.Len, to-from-len(text))
		part, _ := s.buffer.Read(span)
		text = append(text, part...)
		if len(text) == to-from {
			break
		}
	}
	return text
}
