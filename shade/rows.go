package shade

import (
	"math/bits"

	"quoin/api"
)

// Rows: the tree as rows.
func (t Tree) Rows() []api.Row {
	return appendRows(nil, t.root)
}

// Check: do rows make a red-black tree?
func Check(rows []api.Row) api.Errno {
	if len(rows) == 0 {
		return api.OK
	}
	root, rest, ok := readNode(rows, highest(len(rows)))
	if !ok || len(rest) > 0 || root.isRed() {
		return api.ErrShape
	}
	return api.OK
}

func appendRows(rows []api.Row, n *node) []api.Row {
	if n == nil {
		return rows
	}
	return appendRows(appendRows(append(rows, n.row), n.left), n.right)
}

// highest: no red-black tree of so many pieces is higher.
func highest(pieces int) int { return 2 * bits.Len(uint(pieces)) }

// readNode makes the node that rows begin with, and tells the rows behind it and its kids.
// It gives up below the given height, so that rows that are one long chain don't lead it down without end.
func readNode(rows []api.Row, height int) (n *node, rest []api.Row, ok bool) {
	if len(rows) == 0 || height == 0 || !fit(rows[0].Piece) {
		return nil, nil, false
	}
	row := rows[0]
	left, rest, ok := readKid(row.Left, rows[1:], height-1)
	if !ok {
		return nil, nil, false
	}
	right, rest, ok := readKid(row.Right, rest, height-1)
	if !ok {
		return nil, nil, false
	}
	n = makeNode(row.Red, left, row.Piece, right)
	return n, rest, n.row == row && n.balanced()
}

func readKid(has bool, rows []api.Row, height int) (kid *node, rest []api.Row, ok bool) {
	if !has {
		return nil, rows, true
	}
	return readNode(rows, height)
}

// balanced asks of the node alone what a red-black tree asks of each.
func (n *node) balanced() bool {
	redBelow := n.left.isRed() || n.right.isRed()
	return n.left.blackHeight() == n.right.blackHeight() && !(n.isRed() && redBelow)
}
