package shade_test

import (
	"math"
	"slices"

	"quoin/api"
)

// A tree is one by the chapter's words alone, without sums: what is asked of it is reckoned over lists. nil is the empty one.
type tree struct {
	left  *tree
	piece api.Piece
	right *tree
	red   bool
}

func black(l *tree, p api.Piece, r *tree) *tree { return &tree{l, p, r, false} }
func red(l *tree, p api.Piece, r *tree) *tree   { return &tree{l, p, r, true} }

func isRed(t *tree) bool { return t != nil && t.red }

func blackened(t *tree) *tree {
	if t == nil {
		return nil
	}
	return black(t.left, t.piece, t.right)
}

// bh is asked along the left trees, as the chapter says it.
func bh(t *tree) int {
	if t == nil {
		return 0
	}
	if t.red {
		return bh(t.left)
	}
	return bh(t.left) + 1
}

func height(t *tree) int {
	if t == nil {
		return 0
	}
	return 1 + max(height(t.left), height(t.right))
}

func order(t *tree) []api.Piece {
	if t == nil {
		return nil
	}
	return slices.Concat(order(t.left), []api.Piece{t.piece}, order(t.right))
}

// sums are those of the first pieces of a list, one by one.
func sums(list []api.Piece) (bytes, lines int) {
	for _, p := range list {
		bytes += p.Span.Len
		lines += p.Lines
	}
	return bytes, lines
}

func isFit(p api.Piece) bool {
	return p.Span.Len > 0 && p.Span.Len <= math.MaxInt32 && p.Lines >= 0 && p.Lines <= p.Span.Len
}

func joined(l *tree, p api.Piece, r *tree) *tree {
	if !isFit(p) {
		return putTogether(l, r)
	}
	if bh(l) == bh(r) {
		return black(l, p, r)
	}
	if bh(l) > bh(r) {
		return blackened(toRight(l, p, r))
	}
	return blackened(toLeft(l, p, r))
}

func toRight(l *tree, p api.Piece, r *tree) *tree {
	if (l == nil || !l.red) && bh(l) == bh(r) {
		return red(l, p, r)
	}
	a, q, b, c := l.left, l.piece, l.right, l.red
	m := toRight(b, p, r)
	if !c && isRed(m) && isRed(m.right) {
		x, s, y := m.left, m.piece, m.right
		return red(black(a, q, x), s, blackened(y))
	}
	return &tree{a, q, m, c}
}

func toLeft(l *tree, p api.Piece, r *tree) *tree {
	if (r == nil || !r.red) && bh(l) == bh(r) {
		return red(l, p, r)
	}
	a, q, b, c := r.left, r.piece, r.right, r.red
	m := toLeft(l, p, a)
	if !c && isRed(m) && isRed(m.left) {
		x, s, y := m.left, m.piece, m.right
		return red(blackened(x), s, black(y, q, b))
	}
	return &tree{m, q, b, c}
}

func putTogether(l, r *tree) *tree {
	if l == nil {
		return r
	}
	if r == nil {
		return l
	}
	list := order(l)
	first, _ := cutAt(l, len(list)-1)
	return joined(first, list[len(list)-1], r)
}

func cutAt(t *tree, n int) (*tree, *tree) {
	if t == nil {
		return nil, nil
	}
	s := len(order(t.left))
	if n <= s {
		x, y := cutAt(blackened(t.left), n)
		return x, joined(y, t.piece, blackened(t.right))
	}
	x, y := cutAt(blackened(t.right), n-s-1)
	return joined(blackened(t.left), t.piece, x), y
}

func built(list []api.Piece) *tree {
	var good []api.Piece
	for _, p := range list {
		if isFit(p) {
			good = append(good, p)
		}
	}
	if len(good) == 0 {
		return nil
	}
	h := len(good) / 2
	return joined(built(good[:h]), good[h], built(good[h+1:]))
}

func without(t *tree, place int) *tree {
	first, _ := cutAt(t, place)
	_, rest := cutAt(t, place+1)
	return putTogether(first, rest)
}

func with(t *tree, place int, p api.Piece) *tree {
	first, rest := cutAt(t, place)
	return joined(first, p, rest)
}

func replaced(t *tree, place int, p api.Piece) *tree {
	s := len(order(t.left))
	if place < s {
		return &tree{replaced(t.left, place, p), t.piece, t.right, t.red}
	}
	if place > s {
		return &tree{t.left, t.piece, replaced(t.right, place-s-1, p), t.red}
	}
	return &tree{t.left, p, t.right, t.red}
}

func rowsOf(t *tree) []api.Row {
	if t == nil {
		return nil
	}
	list := order(t)
	bytes, lines := sums(list)
	own := api.Row{Piece: t.piece, Red: t.red, Left: t.left != nil, Right: t.right != nil, Pieces: len(list), Bytes: bytes, Lines: lines}
	return slices.Concat([]api.Row{own}, rowsOf(t.left), rowsOf(t.right))
}

// isRedBlack asks the chapter's words of every node.
func isRedBlack(t *tree) bool {
	if t == nil {
		return true
	}
	if t.red && (isRed(t.left) || isRed(t.right)) {
		return false
	}
	return bh(t.left) == bh(t.right) && isRedBlack(t.left) && isRedBlack(t.right)
}
