package shade_test

import (
	"iter"
	"math"
	"math/rand/v2"
	"slices"
	"strconv"
	"strings"
	"testing"

	"quoin/api"
	"quoin/shade"
)

// piece has a line end for each three bytes, so that many pieces have none and some have several.
func piece(length int) api.Piece {
	return api.Piece{Span: api.Span{Src: length % 2, Off: 10 * length, Len: length}, Lines: length / 3}
}

func pieces(lens ...int) []api.Piece {
	var list []api.Piece
	for _, n := range lens {
		list = append(list, piece(n))
	}
	return list
}

// some are n pieces of 1 to 8 bytes.
func some(n int) []api.Piece {
	var list []api.Piece
	for i := range n {
		list = append(list, piece(1+i*5%8))
	}
	return list
}

// told: Len, R or B, < and > for kids.
func told(rows []api.Row) string {
	var words []string
	for _, r := range rows {
		word := strconv.Itoa(r.Piece.Span.Len)
		if r.Red {
			word += "R"
		} else {
			word += "B"
		}
		if r.Left {
			word += "<"
		}
		if r.Right {
			word += ">"
		}
		words = append(words, word)
	}
	return strings.Join(words, " ")
}

func numbersAbout(n int) []int {
	return []int{math.MinInt, math.MinInt + 1, -2, -1, 0, 1, n / 2, n - 1, n, n + 1, n + 2, math.MaxInt - 1, math.MaxInt}
}

func unfit() []api.Piece {
	var list []api.Piece
	for _, length := range []int{math.MinInt, -1, 0, 1 << 31, 1<<31 + 1, math.MaxInt} {
		for _, lines := range []int{0, length, -1} {
			list = append(list, api.Piece{Span: api.Span{Len: length}, Lines: lines})
		}
	}
	for _, length := range []int{1, 5, math.MaxInt32} {
		for _, lines := range []int{math.MinInt, -1, length + 1, math.MaxInt} {
			list = append(list, api.Piece{Span: api.Span{Len: length}, Lines: lines})
		}
	}
	return list
}

// fitAtEdges are fit: Src and Off don't matter.
func fitAtEdges() []api.Piece {
	var list []api.Piece
	for _, length := range []int{1, 2, math.MaxInt32} {
		for _, lines := range []int{0, 1, length} {
			for _, other := range []int{math.MinInt, -1, 0, 7, math.MaxInt} {
				list = append(list, api.Piece{Span: api.Span{Src: other, Off: -other, Len: length}, Lines: lines})
			}
		}
	}
	return list
}

// same holds a tree against one by the words: its shape, its sums, its order.
func same(t *testing.T, what string, got shade.Tree, want *tree) {
	t.Helper()
	rows := got.Rows()
	if !slices.Equal(rows, rowsOf(want)) {
		t.Fatalf("%s: Rows %s; want %s", what, told(rows), told(rowsOf(want)))
	}
	if shade.Check(rows) != api.OK {
		t.Fatalf("%s: Check refuses %s", what, told(rows))
	}
	list := order(want)
	bytes, lines := sums(list)
	if got.Len() != len(list) || got.Bytes() != bytes || got.Lines() != lines || got.Height() != height(want) {
		t.Fatalf("%s: %d pieces, %d bytes, %d lines, height %d", what, got.Len(), got.Bytes(), got.Lines(), got.Height())
	}
	if 1<<got.Height() > (len(list)+1)*(len(list)+1) {
		t.Fatalf("%s: too high", what)
	}
	next := 0
	for place, p := range got.All() {
		if place != next || p != list[place] {
			t.Fatalf("%s: All tells %d, %v", what, place, p)
		}
		next++
	}
	if next != len(list) {
		t.Fatalf("%s: All ends behind %d", what, next)
	}
}

// asked asks a tree of small pieces all that can be asked by a number.
func asked(t *testing.T, what string, got shade.Tree, want *tree) {
	t.Helper()
	list := order(want)
	askedByPlace(t, what, got, list)
	bytes, lines := sums(list)
	for off := -2; off <= bytes+2; off++ {
		place, inside, ok := got.Find(off)
		wantPlace, wantInside, wantOK := found(list, off, func(p api.Piece) int { return p.Span.Len })
		if place != wantPlace || inside != wantInside || ok != wantOK {
			t.Fatalf("%s: Find(%d) = %d, %d, %v", what, off, place, inside, ok)
		}
	}
	for n := -2; n <= lines+2; n++ {
		place, inside, ok := got.FindLine(n)
		wantPlace, wantInside, wantOK := found(list, n, func(p api.Piece) int { return p.Lines })
		if place != wantPlace || inside != wantInside || ok != wantOK {
			t.Fatalf("%s: FindLine(%d) = %d, %d, %v", what, n, place, inside, ok)
		}
	}
}

func askedByPlace(t *testing.T, what string, got shade.Tree, list []api.Piece) {
	t.Helper()
	for place := -2; place <= len(list)+2; place++ {
		p, e := got.Get(place)
		if place < 0 || place >= len(list) {
			if p != (api.Piece{}) || e != api.ErrPlace {
				t.Fatalf("%s: Get(%d) = %v, %d", what, place, p, e)
			}
		} else if p != list[place] || e != api.OK {
			t.Fatalf("%s: Get(%d) = %v, %d", what, place, p, e)
		}
		bytes, lines, e := got.Before(place)
		if place < 0 || place > len(list) {
			if bytes != 0 || lines != 0 || e != api.ErrPlace {
				t.Fatalf("%s: Before(%d) = %d, %d, %d", what, place, bytes, lines, e)
			}
			continue
		}
		wantBytes, wantLines := sums(list[:place])
		if bytes != wantBytes || lines != wantLines || e != api.OK {
			t.Fatalf("%s: Before(%d) = %d, %d, %d", what, place, bytes, lines, e)
		}
	}
}

// found counts one by one.
func found(list []api.Piece, number int, size func(api.Piece) int) (place, inside int, ok bool) {
	if number < 0 {
		return 0, 0, false
	}
	for place, p := range list {
		for inside := range size(p) {
			if number == 0 {
				return place, inside, true
			}
			number--
		}
	}
	return 0, 0, false
}

func TestShapesByHand(t *testing.T) {
	build := func(lens ...int) shade.Tree { return shade.Build(pieces(lens...)) }
	insert := func(x shade.Tree, place, length int) shade.Tree { x, _ = x.Insert(place, piece(length)); return x }
	remove := func(x shade.Tree, place int) shade.Tree { x, _ = x.Delete(place); return x }
	first := func(x shade.Tree, n int) shade.Tree { x, _, _ = x.Split(n); return x }
	rest := func(x shade.Tree, n int) shade.Tree { _, x, _ = x.Split(n); return x }
	chain := build(1)
	for n := 2; n <= 4; n++ {
		chain = insert(chain, n-1, n)
	}
	for _, c := range []struct {
		name string
		got  shade.Tree
		want string
	}{
		{"Build of none", build(), ""},
		{"Build(1 2 3)", build(1, 2, 3), "2B<> 1B 3B"},
		{"Build(1 2)", build(1, 2), "1B> 2R"},
		{"Build(1 2 3 4)", build(1, 2, 3, 4), "3B<> 1B> 2R 4B"},
		{"Insert at the end", insert(build(1, 2, 3), 3, 4), "2B<> 1B 3B> 4R"},
		{"Insert at the beginning", insert(build(1, 2, 3), 0, 4), "2B<> 1B< 4R 3B"},
		{"Delete in the middle", remove(build(1, 2, 3), 1), "3B< 1R"},
		{"Delete of the only one", remove(build(1), 0), ""},
		{"Build(0 5)", build(0, 5), "5B"},
		{"1 to 4, each behind the others", chain, "2B<> 1B 3B> 4R"},
		{"Insert joins anew what it splits", insert(insert(build(1, 2, 3), 3, 4), 4, 5), "2B<> 1B 4B<> 3R 5R"},
		{"Join to the right", shade.Join(build(1, 2, 3), piece(4), build()), "2B<> 1B 3B> 4R"},
		{"Join to the left", shade.Join(build(), piece(4), build(1, 2, 3)), "2B<> 1B< 4R 3B"},
		{"Join, two reds on the right edge", shade.Join(shade.Join(build(1, 2, 3), piece(4), build()), piece(5), build()), "2B<> 1B 4R<> 3B 5B"},
		{"Join, two reds on the left edge", shade.Join(build(), piece(5), shade.Join(build(), piece(4), build(1, 2, 3))), "2B<> 4R<> 5B 1B 3B"},
		{"Join of equals", shade.Join(build(1), piece(2), build(3)), "2B<> 1B 3B"},
		{"Join without a piece", shade.Join(build(1, 2, 3), api.Piece{}, build(4)), "3B<> 1B> 2R 4B"},
		{"Split, no piece", first(build(1, 2), 0), ""},
		{"Split at 0 joins anew", rest(build(1, 2), 0), "2B< 1R"},
		{"Split at the end joins anew", first(build(1, 2), 2), "2B< 1R"},
		{"Split in the middle", rest(build(1, 2, 3), 1), "3B< 2R"},
	} {
		if got := told(c.got.Rows()); got != c.want {
			t.Errorf("%s: %s; want %s", c.name, got, c.want)
		}
	}
}

func TestFindByHand(t *testing.T) {
	x := shade.Build(pieces(1, 2, 3))
	for _, c := range []struct {
		off, place, inside int
		ok                 bool
	}{{-1, 0, 0, false}, {0, 0, 0, true}, {1, 1, 0, true}, {2, 1, 1, true}, {3, 2, 0, true}, {5, 2, 2, true}, {6, 0, 0, false}} {
		if place, inside, ok := x.Find(c.off); place != c.place || inside != c.inside || ok != c.ok {
			t.Errorf("Find(%d) = %d, %d, %v", c.off, place, inside, ok)
		}
	}
	lined := shade.Build(pieces(2, 7, 1, 3, 2)) // 0, 2, 0, 1 and 0 line ends
	for _, c := range []struct {
		n, place, inside int
		ok               bool
	}{{-1, 0, 0, false}, {0, 1, 0, true}, {1, 1, 1, true}, {2, 3, 0, true}, {3, 0, 0, false}} {
		if place, inside, ok := lined.FindLine(c.n); place != c.place || inside != c.inside || ok != c.ok {
			t.Errorf("FindLine(%d) = %d, %d, %v", c.n, place, inside, ok)
		}
	}
}

func TestBuilt(t *testing.T) {
	for n := range 70 {
		list := some(n)
		what := "Build of " + strconv.Itoa(n)
		want := built(list)
		if !slices.Equal(order(want), list) {
			t.Fatal(what)
		}
		same(t, what, shade.Build(list), want)
		asked(t, what, shade.Build(list), want)
	}
}

func TestBuildLeavesOut(t *testing.T) {
	var mixed, good []api.Piece
	for i, p := range unfit() {
		mixed = append(mixed, p, piece(1+i%4), p)
		good = append(good, piece(1+i%4))
	}
	same(t, "Build with unfit pieces", shade.Build(mixed), built(good))
	same(t, "Build of unfit pieces alone", shade.Build(unfit()), nil)
	same(t, "Build of edges", shade.Build(fitAtEdges()), built(fitAtEdges()))
}

func TestJoined(t *testing.T) {
	for i := range 34 {
		for j := range 34 {
			left, right := some(i), some(j)
			what := "Join of " + strconv.Itoa(i) + " and " + strconv.Itoa(j)
			l, r := shade.Build(left), shade.Build(right)
			want := joined(built(left), piece(9), built(right))
			same(t, what, shade.Join(l, piece(9), r), want)
			if !slices.Equal(order(want), slices.Concat(left, pieces(9), right)) {
				t.Fatal(what)
			}
			for _, p := range []api.Piece{{}, {Span: api.Span{Len: 2}, Lines: 3}} {
				same(t, what+" put together", shade.Join(l, p, r), putTogether(built(left), built(right)))
			}
		}
	}
	for _, p := range unfit() {
		same(t, "Join of an unfit piece", shade.Join(shade.Build(some(3)), p, shade.Build(some(5))), putTogether(built(some(3)), built(some(5))))
		same(t, "Join of it alone", shade.Join(shade.Tree{}, p, shade.Tree{}), nil)
	}
	for _, p := range fitAtEdges() {
		same(t, "Join of a fit piece", shade.Join(shade.Tree{}, p, shade.Build(some(5))), joined(nil, p, built(some(5))))
	}
}

// reshaped are trees of the same pieces in many shapes: with the words beside them.
func reshaped(n int) (trees []shade.Tree, words []*tree) {
	for at := range n + 1 {
		l, r, _ := shade.Build(some(n)).Split(at)
		first, rest := cutAt(built(some(n)), at)
		trees = append(trees, shade.Join(l, api.Piece{}, r))
		words = append(words, putTogether(first, rest))
	}
	var x shade.Tree
	var y *tree
	for at, p := range some(n) {
		x, _ = x.Insert(at, p)
		y = with(y, at, p)
	}
	return append(trees, x, shade.Build(some(n))), append(words, y, built(some(n)))
}

func TestSplitInsertDelete(t *testing.T) {
	for n := range 24 {
		trees, words := reshaped(n)
		for k, x := range trees {
			for at := range n + 1 {
				what := strconv.Itoa(n) + " pieces, shape " + strconv.Itoa(k) + ", at " + strconv.Itoa(at)
				first, rest, e := x.Split(at)
				wantFirst, wantRest := cutAt(words[k], at)
				same(t, what+": first of Split", first, wantFirst)
				same(t, what+": rest of Split", rest, wantRest)
				put, f := x.Insert(at, piece(11))
				same(t, what+": Insert", put, with(words[k], at, piece(11)))
				if e != api.OK || f != api.OK || !slices.Equal(order(wantFirst), some(n)[:at]) || !slices.Equal(order(wantRest), some(n)[at:]) {
					t.Fatal(what, e, f)
				}
				if at == n {
					continue
				}
				out, e := x.Delete(at)
				same(t, what+": Delete", out, without(words[k], at))
				set, f := x.Set(at, piece(12))
				same(t, what+": Set", set, replaced(words[k], at, piece(12)))
				if e != api.OK || f != api.OK {
					t.Fatal(what, e, f)
				}
			}
		}
	}
}

// TestLists takes many steps at random, the order held against a plain list and every tree against the words.
func TestLists(t *testing.T) {
	dice := rand.New(rand.NewPCG(2, 7))
	for range 30 {
		var x shade.Tree
		var y *tree
		var list []api.Piece
		for step := range 120 {
			what := "step " + strconv.Itoa(step)
			p := piece(1 + dice.IntN(9))
			at := dice.IntN(len(list) + 1)
			kind := dice.IntN(8)
			switch {
			case kind < 4 || at == len(list):
				x, _ = x.Insert(at, p)
				y = with(y, at, p)
				list = slices.Insert(slices.Clone(list), at, p)
			case kind < 6:
				x, _ = x.Delete(at)
				y = without(y, at)
				list = slices.Delete(slices.Clone(list), at, at+1)
			case kind == 6:
				x, _ = x.Set(at, p)
				y = replaced(y, at, p)
				list = slices.Clone(list)
				list[at] = p
			default: // the two halves change places
				l, r, _ := x.Split(at)
				first, rest := cutAt(y, at)
				x, y = shade.Join(r, p, l), joined(rest, p, first)
				list = slices.Concat(list[at:], []api.Piece{p}, list[:at])
			}
			same(t, what, x, y)
			if !slices.Equal(order(y), list) {
				t.Fatalf("%s: the order is lost", what)
			}
		}
		asked(t, "behind all steps", x, y)
	}
}

func TestAsked(t *testing.T) {
	for n := range 16 {
		trees, words := reshaped(n)
		for k, x := range trees {
			asked(t, "shape "+strconv.Itoa(k), x, words[k])
		}
	}
}

func TestGreatSums(t *testing.T) {
	const most = math.MaxInt32
	var list []api.Piece
	for i := range 9 {
		list = append(list, api.Piece{Span: api.Span{Off: i, Len: most}, Lines: most - i})
	}
	x := shade.Build(list)
	same(t, "great pieces", x, built(list))
	for place := range list {
		bytes, lines := sums(list[:place])
		for _, inside := range []int{0, 1, most - 1} {
			if at, in, ok := x.Find(bytes + inside); at != place || in != inside || !ok {
				t.Errorf("Find(%d) = %d, %d, %v", bytes+inside, at, in, ok)
			}
		}
		for _, inside := range []int{0, 1, most - place - 1} {
			if at, in, ok := x.FindLine(lines + inside); at != place || in != inside || !ok {
				t.Errorf("FindLine(%d) = %d, %d, %v", lines+inside, at, in, ok)
			}
		}
	}
	askedByPlace(t, "great pieces", x, list)
}

func TestNumbersAtTheEnds(t *testing.T) {
	for n := range 6 {
		x := shade.Build(some(n))
		for _, number := range append(numbersAbout(n), numbersAbout(x.Bytes())...) {
			inside := number >= 0 && number <= n
			first, rest, e := x.Split(number)
			if (e == api.OK) != inside || !inside && (e != api.ErrPlace || first != shade.Tree{} || rest != shade.Tree{}) {
				t.Errorf("%d pieces: Split(%d): %d", n, number, e)
			}
			if bytes, lines, e := x.Before(number); (e == api.OK) != inside || !inside && (e != api.ErrPlace || bytes != 0 || lines != 0) {
				t.Errorf("%d pieces: Before(%d): %d", n, number, e)
			}
			if p, e := x.Get(number); (e == api.OK) != (inside && number < n) || e != api.OK && (e != api.ErrPlace || p != api.Piece{}) {
				t.Errorf("%d pieces: Get(%d): %d", n, number, e)
			}
			if y, e := x.Delete(number); (e == api.OK) != (inside && number < n) || e != api.OK && (e != api.ErrPlace || y != shade.Tree{}) {
				t.Errorf("%d pieces: Delete(%d): %d", n, number, e)
			}
			if at, in, ok := x.Find(number); ok != (number >= 0 && number < x.Bytes()) || !ok && (at != 0 || in != 0) {
				t.Errorf("%d pieces: Find(%d)", n, number)
			}
			if at, in, ok := x.FindLine(number); ok != (number >= 0 && number < x.Lines()) || !ok && (at != 0 || in != 0) {
				t.Errorf("%d pieces: FindLine(%d)", n, number)
			}
		}
	}
}

// TestOrderOfErrors: the place is asked ahead of the piece.
func TestOrderOfErrors(t *testing.T) {
	const n = 4
	x := shade.Build(some(n))
	for _, p := range slices.Concat(unfit(), fitAtEdges()) {
		for _, place := range numbersAbout(n) {
			wantInsert, wantSet := api.OK, api.OK
			if !isFit(p) {
				wantInsert, wantSet = api.ErrArg, api.ErrArg
			}
			if place < 0 || place > n {
				wantInsert = api.ErrPlace
			}
			if place < 0 || place >= n {
				wantSet = api.ErrPlace
			}
			if y, e := x.Insert(place, p); e != wantInsert || e != api.OK && (y != shade.Tree{}) {
				t.Errorf("Insert(%d, %v): %d; want %d", place, p, e, wantInsert)
			}
			if y, e := x.Set(place, p); e != wantSet || e != api.OK && (y != shade.Tree{}) {
				t.Errorf("Set(%d, %v): %d; want %d", place, p, e, wantSet)
			}
		}
	}
}

func TestEmptyTree(t *testing.T) {
	var x shade.Tree
	same(t, "the zero Tree", x, nil)
	asked(t, "the zero Tree", x, nil)
	first, rest, e := x.Split(0)
	if first.Len() != 0 || rest.Len() != 0 || e != api.OK {
		t.Error("Split of the empty tree")
	}
	for range x.All() {
		t.Error("All of the empty tree")
	}
}

// TestValue: trees stay as they were, whatever is made of them.
func TestValue(t *testing.T) {
	type kept struct {
		tree shade.Tree
		rows []api.Row
	}
	var all []kept
	keep := func(x shade.Tree) { all = append(all, kept{x, x.Rows()}) }
	x := shade.Build(some(20))
	keep(x)
	for step := range 200 {
		var y, z shade.Tree
		y, _ = x.Insert(step*7%(x.Len()+1), piece(1+step%9))
		keep(y)
		z, _ = y.Delete(step * 5 % y.Len())
		keep(z)
		z, _ = y.Set(step*3%y.Len(), piece(1+step%7))
		keep(z)
		l, r, _ := y.Split(step * 11 % (y.Len() + 1))
		keep(l)
		keep(r)
		if step%4 == 0 {
			y = shade.Join(r, api.Piece{}, l)
			keep(y)
		}
		x = y
	}
	for i, k := range all {
		if !slices.Equal(k.tree.Rows(), k.rows) {
			t.Fatalf("tree %d was changed", i)
		}
	}
}

func TestMemory(t *testing.T) {
	room := append(some(9), pieces(100, 101, 102)...)
	was := slices.Clone(room)
	x := shade.Build(room[:9])
	if !slices.Equal(room, was) {
		t.Error("Build changed its list or the room behind it")
	}
	mixed := slices.Concat(pieces(1, 0, 2, 0, 3), pieces(7, 8))
	was = slices.Clone(mixed)
	shade.Build(mixed[:5])
	if !slices.Equal(mixed, was) {
		t.Error("Build changed a list with unfit pieces")
	}
	clear(room)
	same(t, "its list was changed afterwards", x, built(some(9)))

	one, two := x.Rows(), x.Rows()
	clear(one)
	if !slices.Equal(two, rowsOf(built(some(9)))) {
		t.Error("two answers share memory")
	}
	same(t, "its rows were changed afterwards", x, built(some(9)))

	rows := append(x.Rows(), api.Row{Pieces: 5}, api.Row{Bytes: 6})
	wasRows := slices.Clone(rows)
	shade.Check(rows[:9])
	shade.Check(rows)
	if !slices.Equal(rows, wasRows) {
		t.Error("Check changed its rows")
	}
}

func TestAll(t *testing.T) {
	list := some(13)
	all := shade.Build(list).All()
	for stop := range len(list) + 1 {
		var got []api.Piece
		for place, p := range all {
			if place == stop {
				break
			}
			got = append(got, p)
		}
		if !slices.Equal(got, list[:stop]) {
			t.Errorf("left at %d: %v", stop, got)
		}
	}
	count := 0
	for outer := range all {
		for inner, p := range all {
			if p != list[inner] {
				t.Fatalf("%d inside %d", inner, outer)
			}
			count++
		}
	}
	if count != len(list)*len(list) {
		t.Errorf("one range inside another: %d", count)
	}
	nextOne, stopOne := iter.Pull2(all)
	nextTwo, stopTwo := iter.Pull2(all)
	defer stopOne()
	defer stopTwo()
	for want := range list {
		one, _, ok := nextOne()
		two, _, alsoOK := nextTwo()
		if one != want || two != want || !ok || !alsoOK {
			t.Fatalf("side by side at %d: %d, %d", want, one, two)
		}
	}
	all(nil)
}

// TestOneWayDown: a great tree is asked and changed by few nodes; a call that went over all pieces would never end here.
func TestOneWayDown(t *testing.T) {
	x := shade.Build(pieces(3))
	for range 24 {
		x = shade.Join(x, piece(3), x)
	}
	n := x.Len()
	if n != 1<<25-1 || x.Bytes() != 3*n || x.Lines() != n || x.Height() != 25 {
		t.Fatalf("%d pieces, height %d", n, x.Height())
	}
	for step := range 2000 {
		at := step * 16769 % n
		place, inside, ok := x.Find(3*at + 1)
		line, part, alsoOK := x.FindLine(at)
		bytes, lines, e := x.Before(at)
		if place != at || inside != 1 || !ok || line != at || part != 0 || !alsoOK || bytes != 3*at || lines != at || e != api.OK {
			t.Fatalf("at %d", at)
		}
		y, _ := x.Insert(at, piece(5))
		y, _ = y.Set(at, piece(3))
		y, _ = y.Delete(n)
		if x = y; x.Len() != n || x.Bytes() != 3*n || x.Height() > 50 {
			t.Fatalf("behind the change at %d", at)
		}
	}
}
