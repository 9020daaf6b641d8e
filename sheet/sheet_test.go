package sheet_test

import (
	"bytes"
	"math"
	"slices"
	"strconv"
	"strings"
	"testing"

	"quoin/api"
	"quoin/shade"
	"quoin/sheet"
)

func o(off, length int) api.Span { return api.Span{Src: api.Original, Off: off, Len: length} }
func a(off, length int) api.Span { return api.Span{Src: api.Added, Off: off, Len: length} }

func edit(at int, old, put string) api.Edit {
	return api.Edit{At: at, Old: []byte(old), New: []byte(put)}
}

func edits(list ...api.Edit) []api.Edit { return list }

func insert(t *testing.T, s *sheet.Sheet, at int, p string) {
	t.Helper()
	if e := s.Insert(at, []byte(p)); e != api.OK {
		t.Fatalf("Insert(%d, %q): %d", at, p, e)
	}
}

func remove(t *testing.T, s *sheet.Sheet, from, to int) {
	t.Helper()
	if e := s.Delete(from, to); e != api.OK {
		t.Fatalf("Delete(%d, %d): %d", from, to, e)
	}
}

func apply(t *testing.T, s *sheet.Sheet, list []api.Edit, want api.Errno) {
	t.Helper()
	if e := s.Apply(list); e != want {
		t.Fatalf("Apply(%v): %d; want %d", list, e, want)
	}
}

func spanWord(s api.Span) string {
	source := "o"
	if s.Src == api.Added {
		source = "a"
	}
	return source + strconv.Itoa(s.Off) + "+" + strconv.Itoa(s.Len)
}

// told: each node's span, its line ends behind a slash, R or B, < and > for kids.
func told(rows []api.Row) string {
	var words []string
	for _, r := range rows {
		word := spanWord(r.Piece.Span) + "/" + strconv.Itoa(r.Piece.Lines)
		if r.Red {
			word += "R"
		} else {
			word += "B"
		}
		if r.Left {
			word += "<"
		}
		if r.Right {
			word += ">"
		}
		words = append(words, word)
	}
	return strings.Join(words, " ")
}

// seen holds a sheet to its text, its tree and its number of edits, written out by hand.
func seen(t *testing.T, s *sheet.Sheet, text, tree string, made int) {
	t.Helper()
	if got := string(s.Bytes()); got != text || s.Len() != len(text) {
		t.Errorf("the text is %q, %d; want %q", got, s.Len(), text)
	}
	if got := told(s.Rows()); got != tree {
		t.Errorf("the tree is %q; want %q", got, tree)
	}
	if s.Edits() != made {
		t.Errorf("%d edits; want %d", s.Edits(), made)
	}
}

// same holds a sheet to a paper: text, pieces, tree, edits, and the bounds of P4.2.
func same(t *testing.T, s *sheet.Sheet, w *paper) {
	t.Helper()
	if !bytes.Equal(s.Bytes(), w.text) || s.Len() != len(w.text) {
		t.Fatalf("the text is %q, %d; want %q", s.Bytes(), s.Len(), w.text)
	}
	rows, spans := s.Rows(), s.Pieces()
	if !slices.Equal(spans, w.spans()) {
		t.Fatalf("the pieces are %v; want %v", spans, w.spans())
	}
	if !slices.Equal(rows, w.tree.Rows()) || shade.Check(rows) != api.OK {
		t.Fatalf("the tree is %s; want %s", told(rows), told(w.tree.Rows()))
	}
	var spelt []byte
	for _, span := range spans {
		if span.Len == 0 {
			t.Fatalf("a piece without bytes: %v", spans)
		}
		spelt = append(spelt, w.held(span)...)
	}
	if !bytes.Equal(spelt, w.text) {
		t.Fatalf("the pieces spell %q; want %q", spelt, w.text)
	}
	if s.Edits() != w.edits || len(spans) > 1+2*w.edits {
		t.Fatalf("%d edits, %d pieces; want %d edits", s.Edits(), len(spans), w.edits)
	}
	if n := float64(len(spans) + 1); math.Exp2(float64(w.tree.Height())) > n*n {
		t.Fatalf("%d pieces, height %d", len(spans), w.tree.Height())
	}
}

// asked holds all reading calls to a text, at every place and past both ends.
func asked(t *testing.T, s *sheet.Sheet, text []byte) {
	t.Helper()
	for at := -2; at <= len(text)+2; at++ {
		askedAt(t, s, text, at)
	}
	for _, at := range []int{math.MinInt, math.MinInt + 1, math.MaxInt - 1, math.MaxInt} {
		askedAt(t, s, text, at)
		askedRange(t, s, text, at, 0)
		askedRange(t, s, text, 0, at)
		askedRange(t, s, text, at, at)
	}
	for from := -1; from <= len(text)+1; from++ {
		for to := -1; to <= len(text)+1; to++ {
			askedRange(t, s, text, from, to)
		}
	}
	askedLines(t, s, text)
}

func askedAt(t *testing.T, s *sheet.Sheet, text []byte, at int) {
	t.Helper()
	var wantByte byte
	byteError, lineError, line := api.ErrRange, api.ErrRange, 0
	if at >= 0 && at < len(text) {
		wantByte, byteError = text[at], api.OK
	}
	if at >= 0 && at <= len(text) {
		line, lineError = bytes.Count(text[:at], []byte("\n")), api.OK
	}
	if c, e := s.Byte(at); c != wantByte || e != byteError {
		t.Fatalf("Byte(%d) of %q = %d, %d; want %d, %d", at, text, c, e, wantByte, byteError)
	}
	if n, e := s.LineOf(at); n != line || e != lineError {
		t.Fatalf("LineOf(%d) of %q = %d, %d; want %d, %d", at, text, n, e, line, lineError)
	}
}

func askedRange(t *testing.T, s *sheet.Sheet, text []byte, from, to int) {
	t.Helper()
	var want []byte
	wantError := api.ErrRange
	if 0 <= from && from <= to && to <= len(text) {
		want, wantError = text[from:to], api.OK
	}
	if p, e := s.Slice(from, to); !bytes.Equal(p, want) || e != wantError {
		t.Fatalf("Slice(%d, %d) of %q = %q, %d; want %q, %d", from, to, text, p, e, want, wantError)
	}
}

func askedLines(t *testing.T, s *sheet.Sheet, text []byte) {
	t.Helper()
	begin := starts(text)
	if n := s.Lines(); n != len(begin) {
		t.Fatalf("Lines of %q = %d; want %d", text, n, len(begin))
	}
	for line, want := range begin {
		if at, e := s.Start(line); at != want || e != api.OK {
			t.Fatalf("Start(%d) of %q = %d, %d; want %d", line, text, at, e, want)
		}
	}
	for _, line := range []int{math.MinInt, -2, -1, len(begin), len(begin) + 1, math.MaxInt} {
		if at, e := s.Start(line); at != 0 || e != api.ErrArg {
			t.Fatalf("Start(%d) of %q = %d, %d; want ErrArg", line, text, at, e)
		}
	}
}

func TestByHand(t *testing.T) {
	s := sheet.New([]byte("hello world"))
	seen(t, s, "hello world", "o0+11/0B", 0)
	insert(t, s, 5, ",")
	seen(t, s, "hello, world", "a0+1/0B<> o0+5/0B o5+6/0B", 1)
	insert(t, s, 6, "!")
	seen(t, s, "hello,! world", "a0+2/0B<> o0+5/0B o5+6/0B", 2)
	insert(t, s, 13, "\n")
	seen(t, s, "hello,! world\n", "a0+2/0B<> o0+5/0B o5+6/0B> a2+1/1R", 3)
	// It follows the last piece, but stands ahead of it.
	insert(t, s, 13, "?")
	seen(t, s, "hello,! world?\n", "a0+2/0B<> o0+5/0B a3+1/0R<> o5+6/0B a2+1/1B", 4)
	remove(t, s, 13, 15)
	seen(t, s, "hello,! world", "a0+2/0B<> o0+5/0B o5+6/0B", 5)
	remove(t, s, 5, 7)
	seen(t, s, "hello world", "o0+11/0B", 6)
	remove(t, s, 0, 11)
	seen(t, s, "", "", 7)
}

func TestPutInByHand(t *testing.T) {
	s := sheet.New(nil)
	seen(t, s, "", "", 0)
	insert(t, s, 0, "ab")
	seen(t, s, "ab", "a0+2/0B", 1)
	insert(t, s, 0, "c")
	seen(t, s, "cab", "a0+2/0B< a2+1/0R", 2)
	if got := s.Pieces(); !slices.Equal(got, []api.Span{a(2, 1), a(0, 2)}) {
		t.Errorf("the pieces are %v", got)
	}
	// Behind the c, which was added last, these join it and take their line ends along.
	insert(t, s, 1, "\n\n")
	seen(t, s, "c\n\nab", "a0+2/0B< a2+3/2R", 3)
	insert(t, s, 5, "d")
	seen(t, s, "c\n\nabd", "a0+2/0B<> a2+3/2R a5+1/0R", 4)
}

func TestTakeOutByHand(t *testing.T) {
	s := sheet.New([]byte("a\nb\nc"))
	remove(t, s, 2, 3)
	seen(t, s, "a\n\nc", "o3+2/1B< o0+2/1R", 1)
	remove(t, s, 1, 3)
	seen(t, s, "ac", "o4+1/0B< o0+1/0R", 2)
	remove(t, s, 0, 1)
	seen(t, s, "c", "o4+1/0B", 3)

	// What is taken out behind a text, or ahead of it, leaves one tree as it was cut.
	s = sheet.New([]byte("abcdef"))
	remove(t, s, 4, 6)
	remove(t, s, 0, 1)
	seen(t, s, "bcd", "o1+3/0B", 2)

	// With nothing ahead there is nothing that the original text's first piece could join.
	s = sheet.New([]byte("abc"))
	insert(t, s, 0, "x")
	remove(t, s, 0, 1)
	seen(t, s, "abc", "o0+3/0B", 2)

	// Two spans of the added bytes join again too, with the line ends of both.
	s = sheet.New([]byte("x"))
	insert(t, s, 0, "\na\n")
	insert(t, s, 1, "b")
	remove(t, s, 1, 2)
	seen(t, s, "\na\nx", "o0+1/0B< a0+3/2R", 3)
	askedLines(t, s, []byte("\na\nx"))
}

func TestNothingToDo(t *testing.T) {
	s := sheet.New([]byte("a\nb"))
	for at := range 4 {
		for _, p := range [][]byte{nil, {}} {
			if e := s.Insert(at, p); e != api.OK {
				t.Errorf("Insert(%d, nothing): %d", at, e)
			}
		}
		remove(t, s, at, at)
		apply(t, s, edits(edit(at, "", ""), api.Edit{At: at}), api.OK)
	}
	apply(t, s, nil, api.OK)
	apply(t, s, []api.Edit{}, api.OK)
	seen(t, s, "a\nb", "o0+3/1B", 0)
	insert(t, s, 3, "x")
	seen(t, s, "a\nbx", "o0+3/1B> a0+1/0R", 1)
}

func TestRefused(t *testing.T) {
	for _, text := range []string{"", "a\nbc"} {
		s, w := sheet.New([]byte(text)), newPaper(text)
		n := len(text)
		for _, at := range []int{math.MinInt, -2, -1, n + 1, n + 2, math.MaxInt - 1, math.MaxInt} {
			for _, p := range []string{"", "x"} {
				if e := s.Insert(at, []byte(p)); e != api.ErrRange {
					t.Errorf("Insert(%d, %q): %d", at, p, e)
				}
			}
			for _, other := range []int{math.MinInt, -1, 0, n, n + 1, math.MaxInt} {
				if e := s.Delete(at, other); e != api.ErrRange {
					t.Errorf("Delete(%d, %d): %d", at, other, e)
				}
				if e := s.Delete(other, at); e != api.ErrRange {
					t.Errorf("Delete(%d, %d): %d", other, at, e)
				}
			}
		}
		for to := range n {
			if e := s.Delete(to+1, to); e != api.ErrRange {
				t.Errorf("Delete(%d, %d): %d", to+1, to, e)
			}
		}
		same(t, s, w)
		// Nothing of what was refused lies in the buffer either.
		insert(t, s, n, "y")
		w.putIn(n, []byte("y"))
		same(t, s, w)
	}
}

func TestApply(t *testing.T) {
	for _, c := range []struct {
		text  string
		edits []api.Edit
		want  string
		tree  string
		made  int
	}{
		{"abc", edits(edit(1, "b", "xy")), "axyc", "a0+2/0B<> o0+1/0B o2+1/0B", 2},
		{"abc", edits(edit(1, "b", "")), "ac", "o2+1/0B< o0+1/0R", 1},
		{"abc", edits(edit(1, "", "b")), "abbc", "a0+1/0B<> o0+1/0B o1+2/0B", 1},
		{"", edits(edit(0, "", "x")), "x", "a0+1/0B", 1},
		{"abc", edits(edit(0, "abc", "")), "", "", 1},
		// Old is taken out and New put in, also where they are alike.
		{"abc", edits(edit(0, "abc", "abc")), "abc", "a0+3/0B", 2},
		// Each edit is meant for the text that the ones ahead of it left.
		{"abc", edits(edit(0, "a", ""), edit(1, "c", "de"), edit(3, "", "f")), "bdef", "o1+1/0B> a0+3/0R", 4},
		{"", edits(edit(0, "", "ab\n"), edit(3, "", "c"), edit(1, "b\nc", "")), "a", "a0+1/0B", 3},
		{"abc", edits(edit(3, "", ""), edit(0, "", "")), "abc", "o0+3/0B", 0},
	} {
		s := sheet.New([]byte(c.text))
		apply(t, s, c.edits, api.OK)
		seen(t, s, c.want, c.tree, c.made)
	}
}

func TestApplyRefused(t *testing.T) {
	bad := []api.Edit{
		edit(-1, "", ""), edit(-1, "", "x"), edit(-1, "a", ""), edit(math.MinInt, "", "x"), edit(math.MinInt, "abc", ""),
		edit(4, "", ""), edit(4, "", "x"), edit(5, "", "x"), edit(4, "c", "c"), edit(math.MaxInt, "", "x"), edit(math.MaxInt, "abc", "x"),
		edit(3, "c", ""), edit(2, "cd", ""), edit(0, "abcd", "abcd"), edit(0, "ab\n", ""), edit(1, "a", ""), edit(0, "bc", "x"), edit(0, "aBc", "x"),
		edit(0, "xyz", ""), edit(0, "abb", ""), edit(math.MaxInt-1, "ab", "ab"),
	}
	// These leave the text abc; they make primitive edits, most of them with bytes for the buffer.
	heads := [][]api.Edit{
		nil,
		edits(edit(0, "", "")),
		edits(edit(0, "a", ""), edit(0, "", "a")),
		edits(edit(3, "", "xyz"), edit(3, "xyz", "")),
		edits(edit(0, "abc", "a\nc"), edit(1, "\n", "b")),
	}
	for _, b := range bad {
		for _, head := range heads {
			s, w := sheet.New([]byte("abd")), newPaper("abd")
			first := edits(edit(2, "d", "cc"), edit(2, "c", ""))
			apply(t, s, first, api.OK)
			w.apply(first)
			list := slices.Concat(head, edits(b, edit(0, "", "never")))
			apply(t, s, list, api.ErrEdit)
			same(t, s, w)
			asked(t, s, w.text)
			// The bytes of refused edits don't lie in the buffer: what comes next stands where it would have.
			insert(t, s, 3, "z")
			w.putIn(3, []byte("z"))
			same(t, s, w)
			if list := s.Pieces(); list[len(list)-1] != a(1, 2) {
				t.Fatalf("behind %v: %v", b, list)
			}
			apply(t, s, edits(edit(1, "b", "q")), api.OK)
			w.apply(edits(edit(1, "b", "q")))
			same(t, s, w)
			asked(t, s, w.text)
		}
	}
}

// TestApplyEachFits: an edit is held against the text as it is by then, not as it was.
func TestApplyEachFits(t *testing.T) {
	s := sheet.New([]byte("abc"))
	apply(t, s, edits(edit(0, "a", "x"), edit(0, "a", "y")), api.ErrEdit)
	apply(t, s, edits(edit(0, "abc", ""), edit(1, "", "x")), api.ErrEdit)
	apply(t, s, edits(edit(0, "", "12"), edit(5, "", "x"), edit(6, "x", "")), api.ErrEdit)
	seen(t, s, "abc", "o0+3/0B", 0)
	apply(t, s, edits(edit(0, "a", "x"), edit(0, "x", "y")), api.OK)
	seen(t, s, "ybc", "o1+2/0B< a1+1/0R", 4)
}

// An act is one call, on a sheet and on a paper.
type act struct {
	at, to int
	p      string
}

func (x act) do(t *testing.T, s *sheet.Sheet, w *paper) {
	t.Helper()
	if x.p != "" {
		insert(t, s, x.at, x.p)
		w.putIn(x.at, []byte(x.p))
		return
	}
	remove(t, s, x.at, x.to)
	w.takeOut(x.at, x.to)
}

func actsOn(length int) []act {
	var all []act
	for at := range length + 1 {
		all = append(all, act{at: at, p: "x"}, act{at: at, p: "\ny"})
		for to := at + 1; to <= length; to++ {
			all = append(all, act{at: at, to: to})
		}
	}
	return all
}

// every does all lists of acts of a depth, each on a sheet of its own, and asks behind the last act.
func every(t *testing.T, text string, done []act, depth int) {
	s, w := sheet.New([]byte(text)), newPaper(text)
	for _, x := range done {
		x.do(t, s, w)
	}
	same(t, s, w)
	asked(t, s, w.text)
	if depth == 0 {
		return
	}
	for _, x := range actsOn(len(w.text)) {
		every(t, text, append(slices.Clone(done), x), depth-1)
	}
}

func TestEveryFewEdits(t *testing.T) {
	for _, text := range []string{"", "a", "\n", "a\n", "\na", "a\nb", "\n\n\n", "ab\nc"} {
		every(t, text, nil, 2)
	}
	every(t, "", nil, 4)
	every(t, "a\n", nil, 3)
	every(t, "abc", nil, 3)
}

// A picker picks by a plain rule, so that each run is the same.
type picker struct{ seed uint32 }

func (k *picker) below(n int) int {
	k.seed = k.seed*1664525 + 1013904223
	return int(k.seed>>8) % n
}

func (k *picker) text(most int) string {
	var b strings.Builder
	for range k.below(most) + 1 {
		b.WriteByte("ab\ncd\xff\x00"[k.below(7)])
	}
	return b.String()
}

// someEdits are a list of them; now and then one does not fit.
func (k *picker) someEdits(text []byte) []api.Edit {
	w := newPaper(string(text))
	var list []api.Edit
	for range k.below(4) {
		at := k.below(len(w.text) + 1)
		to := min(len(w.text), at+k.below(6))
		e := api.Edit{At: at, Old: slices.Clone(w.text[at:to])}
		if k.below(3) > 0 {
			e.New = []byte(k.text(4))
		}
		if k.below(12) == 0 {
			e.Old = append(e.Old, "no such bytes"...)
		}
		list = append(list, e)
		w.apply(edits(e))
	}
	return list
}

// step does one picked thing: what is typed on, what is put in anywhere, what is taken out again, lists of edits.
func (k *picker) step(t *testing.T, s *sheet.Sheet, w *paper, typed *int) {
	t.Helper()
	n := len(w.text)
	switch k.below(6) {
	case 0, 1:
		at := min(*typed, n)
		p := k.text(3)
		act{at: at, p: p}.do(t, s, w)
		*typed = at + len(p)
	case 2:
		at, p := k.below(n+1), k.text(5)
		act{at: at, p: p}.do(t, s, w)
		*typed = at + len(p)
		if k.below(3) == 0 {
			act{at: at, to: at + len(p)}.do(t, s, w)
		}
	case 3, 4:
		at := k.below(n + 1)
		act{at: at, to: min(n, at+k.below(8))}.do(t, s, w)
	default:
		list := k.someEdits(w.text)
		apply(t, s, list, w.apply(list))
	}
}

func TestManyEdits(t *testing.T) {
	for seed := range uint32(12) {
		k := &picker{seed: seed * 7919}
		text := ""
		if seed > 0 {
			text = k.text(400)
		}
		s, w := sheet.New([]byte(text)), newPaper(text)
		typed := 0
		for range 600 {
			k.step(t, s, w, &typed)
			same(t, s, w)
			askedLines(t, s, w.text)
			for range 8 {
				from, to := k.below(len(w.text)+2), k.below(len(w.text)+2)
				askedAt(t, s, w.text, from)
				askedRange(t, s, w.text, from, to)
			}
		}
		asked(t, s, w.text)
		remove(t, s, 0, len(w.text))
		seen(t, s, "", "", w.edits+1)
	}
}

// TestAheadOfAll: what is put in ahead of the original text's first byte and taken out again leaves the tree as it was cut. There is no last piece ahead of it then, but many behind.
func TestAheadOfAll(t *testing.T) {
	text := strings.Repeat("a\nb", 40)
	for count := range 40 {
		s, w := sheet.New([]byte(text)), newPaper(text)
		for i := range count {
			act{at: 2*i + 1, p: "x"}.do(t, s, w)
			for range i % 3 {
				act{at: 0, p: "\n"}.do(t, s, w)
			}
			act{at: 0, to: i % 3}.do(t, s, w)
			same(t, s, w)
		}
	}
}

// TestGreatText: few pieces are gone over where few are asked for, or this takes long.
func TestGreatText(t *testing.T) {
	text := bytes.Repeat([]byte("0123456789abcde\n"), 1<<14)
	s := sheet.New(text)
	var want []byte
	for i := range 1 << 14 {
		want = append(append(want, text[16*i:16*i+3]...), 'x')
		want = append(want, text[16*i+3:16*i+16]...)
		insert(t, s, 17*i+3, "x")
	}
	if !bytes.Equal(s.Bytes(), want) || len(s.Pieces()) != 1<<15+1 || s.Edits() != 1<<14 {
		t.Fatalf("%d pieces, %d edits", len(s.Pieces()), s.Edits())
	}
	for i := range 1 << 14 {
		askedAt(t, s, want[:17*i+4], 17*i+2)
		if p, e := s.Slice(17*i, 17*i+6); string(p) != "012x34" || e != api.OK {
			t.Fatalf("Slice at line %d: %q, %d", i, p, e)
		}
		if at, e := s.Start(i); at != 17*i || e != api.OK {
			t.Fatalf("Start(%d): %d, %d", i, at, e)
		}
	}
	for i := range 1 << 14 {
		remove(t, s, 16*i+3, 16*i+4)
	}
	if got := s.Pieces(); !bytes.Equal(s.Bytes(), text) || len(got) != 1 || got[0] != o(0, len(text)) {
		t.Fatalf("%d pieces", len(got))
	}
}

func TestNilSheet(t *testing.T) {
	var s *sheet.Sheet
	for _, n := range []int{math.MinInt, -1, 0, 1, math.MaxInt} {
		for _, m := range []int{math.MinInt, -1, 0, 1, math.MaxInt} {
			if e := s.Delete(n, m); e != api.ErrArg {
				t.Errorf("Delete(%d, %d): %d", n, m, e)
			}
		}
		for _, p := range []string{"", "x"} {
			if e := s.Insert(n, []byte(p)); e != api.ErrArg {
				t.Errorf("Insert(%d, %q): %d", n, p, e)
			}
			apply(t, s, edits(edit(n, "", p)), api.ErrArg)
		}
	}
	apply(t, s, nil, api.ErrArg)
	asked(t, s, nil)
	seen(t, s, "", "", 0)
	if len(s.Pieces()) != 0 {
		t.Error(s.Pieces())
	}
}

// roomy puts bytes behind a text into its spare room.
func roomy(text string) (all, part []byte) {
	all = append([]byte(text), "spare"...)
	return all, all[:len(text)]
}

func TestWhatIsHandedIn(t *testing.T) {
	allText, text := roomy("a\nb")
	s := sheet.New(text)
	allPut, put := roomy("xy")
	s.Insert(1, put)
	allOld, old := roomy("y\n")
	allNew, fresh := roomy("123")
	list := append(edits(api.Edit{At: 2, Old: old, New: fresh}), edit(77, "q", "r"))
	apply(t, s, list[:1], api.OK)
	for i, c := range []struct{ got, want string }{
		{string(allText), "a\nbspare"}, {string(allPut), "xyspare"}, {string(allOld), "y\nspare"}, {string(allNew), "123spare"},
		{string(list[1].Old), "q"}, {string(list[1].New), "r"}, {string(list[0].Old), "y\n"}, {string(list[0].New), "123"},
	} {
		if c.got != c.want {
			t.Errorf("%d is changed to %q", i, c.got)
		}
	}
	if list[0].At != 2 || list[1].At != 77 {
		t.Error("a list of edits is changed")
	}
	for _, p := range [][]byte{allText, allPut, allOld, allNew} {
		clear(p)
	}
	clear(list)
	if got := string(s.Bytes()); got != "ax123b" {
		t.Errorf("what was handed in is kept: %q", got)
	}
}

func TestWhatIsAnswered(t *testing.T) {
	s, w := sheet.New([]byte("a\nb\nc")), newPaper("a\nb\nc")
	for _, x := range []act{{at: 2, p: "x\n"}, {at: 5, to: 6}, {at: 0, p: "z"}} {
		x.do(t, s, w)
	}
	for range 2 {
		whole := s.Bytes()
		one, _ := s.Slice(0, 1)
		some, _ := s.Slice(0, s.Len())
		more, _ := s.Slice(0, s.Len())
		rows, spans := s.Rows(), s.Pieces()
		for _, p := range [][]byte{whole, one, some} {
			p = p[:cap(p)]
			for i := range p {
				p[i] = '#'
			}
		}
		clear(rows[:cap(rows)])
		clear(spans[:cap(spans)])
		if !bytes.Equal(more, w.text) {
			t.Fatal("two answers share memory")
		}
		same(t, s, w)
		asked(t, s, w.text)
		// A refused list makes the buffer anew: that is no one else's memory either.
		apply(t, s, edits(edit(0, "", "new"), edit(0, "no", "")), api.ErrEdit)
		act{at: 1, p: "y"}.do(t, s, w)
	}
}

func TestSheetsApart(t *testing.T) {
	one, two := sheet.New([]byte("one")), sheet.New([]byte("two"))
	insert(t, one, 3, "!")
	insert(t, two, 0, "??")
	remove(t, one, 0, 1)
	apply(t, two, edits(edit(0, "?", "#"), edit(9, "", "x")), api.ErrEdit)
	seen(t, one, "ne!", "a0+1/0B< o1+2/0R", 2)
	seen(t, two, "??two", "o0+3/0B< a0+2/0R", 1)
}
