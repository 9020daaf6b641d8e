package shade_test

import (
	"math"
	"runtime/debug"
	"slices"
	"testing"

	"quoin/api"
	"quoin/shade"
)

// shapes are all trees of n nodes, red-black or not, in all colours.
func shapes(n int) []*tree {
	if n == 0 {
		return []*tree{nil}
	}
	var list []*tree
	for ahead := range n {
		for _, l := range shapes(ahead) {
			for _, r := range shapes(n - 1 - ahead) {
				list = append(list, black(l, piece(1+n), r), red(l, piece(4+n), r))
			}
		}
	}
	return list
}

func checked(t *testing.T, rows []api.Row, good bool) {
	t.Helper()
	want := api.ErrShape
	if good {
		want = api.OK
	}
	if got := shade.Check(rows); got != want {
		t.Fatalf("Check(%s) = %d; want %d: %v", told(rows), got, want, rows)
	}
}

func TestCheckAllShapes(t *testing.T) {
	whole := 0
	for n := range 8 {
		for _, x := range shapes(n) {
			good := isRedBlack(x) && !isRed(x)
			if good {
				whole++
			}
			checked(t, rowsOf(x), good)
		}
	}
	if whole < 20 {
		t.Errorf("only %d whole trees among the shapes", whole)
	}
}

// wrongNumbers are rows of which one number is another than told.
func wrongNumbers(rows []api.Row, i int) [][]api.Row {
	var list [][]api.Row
	add := func(change func(*api.Row)) {
		other := slices.Clone(rows)
		change(&other[i])
		if other[i] != rows[i] {
			list = append(list, other)
		}
	}
	for _, by := range []int{-1, 1, 1 << 32, math.MinInt, math.MaxInt} {
		add(func(r *api.Row) { r.Pieces += by })
		add(func(r *api.Row) { r.Bytes += by })
		add(func(r *api.Row) { r.Lines += by })
		add(func(r *api.Row) { r.Piece.Lines += by })
		add(func(r *api.Row) { r.Piece.Span.Len += by })
	}
	add(func(r *api.Row) { *r = api.Row{} })
	return list
}

func wholeTrees(most int) []*tree {
	var list []*tree
	for n := 1; n <= most; n++ {
		for _, x := range shapes(n) {
			if isRedBlack(x) && !isRed(x) {
				list = append(list, x)
			}
		}
	}
	return list
}

func TestCheckWrongRows(t *testing.T) {
	for _, x := range wholeTrees(7) {
		rows := rowsOf(x)
		checked(t, rows, true)
		for i := range rows {
			for _, wrong := range wrongNumbers(rows, i) {
				checked(t, wrong, false)
			}
			kids := slices.Clone(rows)
			kids[i].Left = !kids[i].Left
			checked(t, kids, false)
			kids[i].Right = !kids[i].Right
			if told(kids) != told(rows) {
				checkedByReading(t, kids)
			}
			if i > 0 {
				checked(t, rows[i:], isWholeFrom(rows[i:]))
				checked(t, rows[:i], false)
			}
		}
		checked(t, append(slices.Clone(rows), rows...), false)
		checked(t, append(slices.Clone(rows), api.Row{}), false)
	}
}

// checkedByReading finds by a search among all shapes whether rows are those of a whole tree.
func checkedByReading(t *testing.T, rows []api.Row) {
	t.Helper()
	checked(t, rows, isWholeFrom(rows))
}

func isWholeFrom(rows []api.Row) bool {
	n := len(rows)
	for _, x := range bare(n) {
		flags := rowsOf(x)
		fits := true
		for i := range rows {
			fits = fits && flags[i].Left == rows[i].Left && flags[i].Right == rows[i].Right
		}
		if !fits {
			continue
		}
		next := 0
		x = filled(x, rows, &next)
		return isRedBlack(x) && !isRed(x) && slices.Equal(rowsOf(x), rows)
	}
	return false
}

// bare are all shapes of n nodes, without colours.
func bare(n int) []*tree {
	if n == 0 {
		return []*tree{nil}
	}
	var list []*tree
	for ahead := range n {
		for _, l := range bare(ahead) {
			for _, r := range bare(n - 1 - ahead) {
				list = append(list, black(l, api.Piece{}, r))
			}
		}
	}
	return list
}

// filled gives a shape the pieces and colours of rows, in their order.
func filled(x *tree, rows []api.Row, next *int) *tree {
	if x == nil {
		return nil
	}
	row := rows[*next]
	*next++
	left := filled(x.left, rows, next)
	right := filled(x.right, rows, next)
	return &tree{left, row.Piece, right, row.Red}
}

// TestCheckAllFlags: every choice of colours and kids in short lists, with sums that some list of that length may have.
func TestCheckAllFlags(t *testing.T) {
	for n := 1; n <= 4; n++ {
		for flags := range 1 << (3 * n) {
			rows := make([]api.Row, n)
			for i := range rows {
				bits := flags >> (3 * i)
				rows[i] = api.Row{Piece: piece(2 + i), Red: bits&1 != 0, Left: bits&2 != 0, Right: bits&4 != 0}
			}
			for i, x := range rowsWithSums(rows) {
				rows[i] = x
			}
			checkedByReading(t, rows)
		}
	}
}

// rowsWithSums sets the sums of each row to what the rows from it on make, read as a tree as far as they go.
func rowsWithSums(rows []api.Row) []api.Row {
	out := slices.Clone(rows)
	next := 0
	var read func()
	read = func() {
		if next >= len(out) {
			return
		}
		at := next
		next++
		if out[at].Left {
			read()
		}
		if out[at].Right {
			read()
		}
		for _, r := range out[at:next] {
			out[at].Pieces++
			out[at].Bytes += r.Piece.Span.Len
			out[at].Lines += r.Piece.Lines
		}
	}
	for next < len(out) {
		read()
	}
	return out
}

func TestCheckFit(t *testing.T) {
	one := func(p api.Piece) []api.Row {
		return []api.Row{{Piece: p, Pieces: 1, Bytes: p.Span.Len, Lines: p.Lines}}
	}
	for _, p := range unfit() {
		checked(t, one(p), false)
		checked(t, rowsOf(black(black(nil, piece(2), nil), p, black(nil, piece(3), nil))), false)
		checked(t, rowsOf(black(black(nil, p, nil), piece(2), black(nil, piece(3), nil))), false)
	}
	for _, p := range fitAtEdges() {
		checked(t, one(p), true)
	}
	checked(t, nil, true)
	checked(t, []api.Row{}, true)
}

// TestCheckHigh: a tree as high as a red-black tree may be is taken, by its left and by its right edge.
func TestCheckHigh(t *testing.T) {
	full := func(blacks int) *tree {
		var x *tree
		for range blacks {
			x = black(x, piece(1), x)
		}
		return x
	}
	for blacks := 1; blacks <= 9; blacks++ {
		var l, r *tree
		for b := range blacks {
			l, r = black(l, piece(1), full(b)), black(full(b), piece(1), r)
			if b < blacks-1 {
				l, r = red(l, piece(1), full(b+1)), red(full(b+1), piece(1), r)
			}
		}
		checked(t, rowsOf(l), true)
		checked(t, rowsOf(r), true)
		if want := 2*blacks - 1; height(l) != want || height(r) != want {
			t.Errorf("heights %d, %d; want %d", height(l), height(r), want)
		}
	}
}

// TestCheckChain: rows that are one long chain are refused, however long.
func TestCheckChain(t *testing.T) {
	defer debug.SetMaxStack(debug.SetMaxStack(1 << 20))
	const n = 1 << 17
	left, right := make([]api.Row, n), make([]api.Row, n)
	for i := range n {
		rest := n - i
		row := api.Row{Piece: piece(1), Pieces: rest, Bytes: rest}
		left[i], right[i] = row, row
		left[i].Left, right[i].Right = rest > 1, rest > 1
	}
	checked(t, left, false)
	checked(t, right, false)
}
