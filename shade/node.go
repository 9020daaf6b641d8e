package shade

import "quoin/api"

// A node is never changed once it is made, since trees share nodes. The nil node is the empty tree.
type node struct {
	// row is what Rows tells of the node: its piece, its colour and its sums.
	row         api.Row
	left, right *node
	// black and tall are the black height and the height: kept, so that Join needn't walk down for them.
	black, tall int
}

func makeNode(red bool, left *node, p api.Piece, right *node) *node {
	n := &node{left: left, right: right}
	n.row = api.Row{
		Piece:  p,
		Red:    red,
		Left:   left != nil,
		Right:  right != nil,
		Pieces: left.pieces() + 1 + right.pieces(),
		Bytes:  left.bytes() + p.Span.Len + right.bytes(),
		Lines:  left.lines() + p.Lines + right.lines(),
	}
	n.tall = 1 + max(left.height(), right.height())
	n.black = left.blackHeight()
	if !red {
		n.black++
	}
	return n
}

func (n *node) isRed() bool { return n != nil && n.row.Red }

func (n *node) pieces() int {
	if n == nil {
		return 0
	}
	return n.row.Pieces
}

func (n *node) bytes() int {
	if n == nil {
		return 0
	}
	return n.row.Bytes
}

func (n *node) lines() int {
	if n == nil {
		return 0
	}
	return n.row.Lines
}

func (n *node) height() int {
	if n == nil {
		return 0
	}
	return n.tall
}

func (n *node) blackHeight() int {
	if n == nil {
		return 0
	}
	return n.black
}

func (n *node) blackened() *node {
	if !n.isRed() {
		return n
	}
	return makeNode(false, n.left, n.row.Piece, n.right)
}

// get and set are for a place that n has.
func (n *node) get(place int) api.Piece {
	ahead := n.left.pieces()
	switch {
	case place < ahead:
		return n.left.get(place)
	case place == ahead:
		return n.row.Piece
	}
	return n.right.get(place - ahead - 1)
}

func (n *node) set(place int, p api.Piece) *node {
	ahead := n.left.pieces()
	switch {
	case place < ahead:
		return makeNode(n.row.Red, n.left.set(place, p), n.row.Piece, n.right)
	case place == ahead:
		return makeNode(n.row.Red, n.left, p, n.right)
	}
	return makeNode(n.row.Red, n.left, n.row.Piece, n.right.set(place-ahead-1, p))
}

// find is for a number below n's sum: which piece holds the byte or line end of that number, and where in the piece it stands.
func (n *node) find(number int, sum func(*node) int) (place, inside int) {
	ahead := sum(n.left)
	if number < ahead {
		return n.left.find(number, sum)
	}
	reached := sum(n) - sum(n.right)
	if number < reached {
		return n.left.pieces(), number - ahead
	}
	place, inside = n.right.find(number-reached, sum)
	return n.left.pieces() + 1 + place, inside
}

// before: the bytes and line ends of the first pieces, as many as place tells.
func (n *node) before(place int) (bytes, lines int) {
	if n == nil {
		return 0, 0
	}
	ahead := n.left.pieces()
	if place <= ahead {
		return n.left.before(place)
	}
	bytes, lines = n.right.before(place - ahead - 1)
	return n.row.Bytes - n.right.bytes() + bytes, n.row.Lines - n.right.lines() + lines
}

// walk goes over the pieces in their order while visit asks for more. It tells whether visit still does.
func walk(n *node, visit func(api.Piece) bool) bool {
	if n == nil {
		return true
	}
	return walk(n.left, visit) && visit(n.row.Piece) && walk(n.right, visit)
}
