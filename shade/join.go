package shade

import "quoin/api"

// join is for whole trees and a fit piece.
func join(l *node, p api.Piece, r *node) *node {
	switch {
	case l.blackHeight() == r.blackHeight():
		return makeNode(false, l, p, r)
	case l.blackHeight() > r.blackHeight():
		return joinRight(l, p, r).blackened()
	}
	return joinLeft(l, p, r).blackened()
}

// joinRight puts p and r down the right edge of l, which is at least as high as r in black nodes.
func joinRight(l *node, p api.Piece, r *node) *node {
	if !l.isRed() && l.blackHeight() == r.blackHeight() {
		return makeNode(true, l, p, r)
	}
	m := joinRight(l.right, p, r)
	// Two reds one below the other on the edge: a black node above them takes the upper one's place.
	if !l.isRed() && m.isRed() && m.right.isRed() {
		lower := makeNode(false, l.left, l.row.Piece, m.left)
		return makeNode(true, lower, m.row.Piece, m.right.blackened())
	}
	return makeNode(l.isRed(), l.left, l.row.Piece, m)
}

// joinLeft is joinRight the other way round.
func joinLeft(l *node, p api.Piece, r *node) *node {
	if !r.isRed() && l.blackHeight() == r.blackHeight() {
		return makeNode(true, l, p, r)
	}
	m := joinLeft(l, p, r.left)
	if !r.isRed() && m.isRed() && m.left.isRed() {
		lower := makeNode(false, m.right, r.row.Piece, r.right)
		return makeNode(true, m.left.blackened(), m.row.Piece, lower)
	}
	return makeNode(r.isRed(), m, r.row.Piece, r.right)
}

// split takes no short way where all pieces go to one side: the joins on the way down make the shape that is promised.
// The colour of n itself plays no part, so that what is split further needn't be blackened first.
func split(n *node, count int) (first, rest *node) {
	if n == nil {
		return nil, nil
	}
	ahead := n.left.pieces()
	if count <= ahead {
		first, rest = split(n.left, count)
		return first, join(rest, n.row.Piece, n.right.blackened())
	}
	first, rest = split(n.right, count-ahead-1)
	return join(n.left.blackened(), n.row.Piece, first), rest
}

// together: l and r without a piece between.
func together(l, r *node) *node {
	if l == nil {
		return r
	}
	if r == nil {
		return l
	}
	last := l.pieces() - 1
	first, _ := split(l, last)
	return join(first, l.get(last), r)
}

func build(list []api.Piece) *node {
	if len(list) == 0 {
		return nil
	}
	half := len(list) / 2
	return join(build(list[:half]), list[half], build(list[half+1:]))
}
