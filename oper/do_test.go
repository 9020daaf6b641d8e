package oper_test

import (
	"bytes"
	"math"
	"slices"
	"strings"
	"testing"

	"quoin/api"
	"quoin/change"
	"quoin/oper"
)

func do(t string, at int, op string, r api.Range, count int) told {
	return tell(oper.Do([]byte(t), at, op, r, count))
}

func plain(from, to int) api.Range { return api.Range{From: from, To: to} }
func whole(from, to int) api.Range { return api.Range{From: from, To: to, Lines: true} }
func lead(from, to int) api.Range  { return api.Range{From: from, To: to, Lines: true, Lead: true} }

// bytesIn and linesIn fill a register; so far, but for the edits.
func bytesIn(how int, text string, cursor int) rest {
	return rest{cursor: cursor, set: true, reg: text, how: how}
}

func linesIn(how int, text string, cursor int) rest {
	return rest{cursor: cursor, set: true, lines: true, reg: text, how: how}
}

func typing(x rest) rest {
	x.types = true
	return x
}

func rests(cursor int) rest { return rest{cursor: cursor} }

// An asked is a call of Do and what it must answer.
type asked struct {
	text  string
	at    int
	op    string
	r     api.Range
	count int
	want  told
}

func holdDo(t *testing.T, list []asked) {
	t.Helper()
	for _, c := range list {
		if got := do(c.text, c.at, c.op, c.r, c.count); !got.is(c.want) {
			t.Errorf("Do(%.99q, %d, %q, %+v, %d) = %v; want %v", c.text, c.at, c.op, c.r, c.count, got, c.want)
		}
		if got := read(c.text).do(c.at, c.op, c.r, c.count); !got.is(c.want) {
			t.Errorf("the second reading of Do(%.99q, %d, %q, %+v, %d) = %v; want %v", c.text, c.at, c.op, c.r, c.count, got, c.want)
		}
	}
}

func one(at int, old, new string) []swap { return []swap{{at, old, new}} }

func TestDoExamples(t *testing.T) {
	holdDo(t, []asked{
		{"hello", 0, "d", plain(0, 2), 1, told{one(0, "he", ""), bytesIn(api.Small, "he", 0)}},
		{"a\nb", 2, "d", lead(1, 3), 1, told{one(1, "\nb", ""), linesIn(api.Deleted, "b\n", 0)}},
		{"a\nb", 2, "c", lead(1, 3), 1, told{one(2, "b", ""), typing(linesIn(api.Deleted, "b\n", 2))}},
		{"", 0, "d", plain(0, 0), 1, refused(api.ErrOper)},
		{"", 0, "c", plain(0, 0), 1, told{nil, typing(rests(0))}},
		{"", 0, "d", whole(0, 0), 1, refused(api.ErrOper)},
		{"x\n\n", 3, "c", lead(2, 3), 1, told{nil, typing(linesIn(api.Deleted, "\n", 3))}},
		{"x\n\n", 3, "c", whole(2, 3), 1, told{nil, typing(linesIn(api.Deleted, "\n", 2))}},
		{"a\n\nb", 0, ">", whole(0, 4), 2, told{[]swap{{0, "", "\t\t"}, {5, "", "\t\t"}}, rests(2)}},
	})
}

func TestRemoveByHand(t *testing.T) {
	const op = "d"
	holdDo(t, []asked{
		// Bytes: the cursor is where they were taken out, be it a place where none may rest.
		{"abc", 2, op, plain(1, 3), 1, told{one(1, "bc", ""), bytesIn(api.Small, "bc", 1)}},
		{"abc", 0, op, plain(0, 3), 9999, told{one(0, "abc", ""), bytesIn(api.Small, "abc", 0)}},
		{"a\nb", 0, op, plain(0, 2), 1, told{one(0, "a\n", ""), bytesIn(api.Deleted, "a\n", 0)}},
		{"a\nb", 0, op, plain(1, 2), 1, told{one(1, "\n", ""), bytesIn(api.Deleted, "\n", 1)}},
		{"a\nb", 0, op, plain(2, 3), 1, told{one(2, "b", ""), bytesIn(api.Small, "b", 2)}},
		{"a\rb", 0, op, plain(1, 2), 1, told{one(1, "\r", ""), bytesIn(api.Small, "\r", 1)}},
		{"abc", 0, op, plain(1, 1), 1, refused(api.ErrOper)}, {"a\nb", 0, op, plain(3, 3), 1, refused(api.ErrOper)},
		// Lead is of lines alone.
		{"abc", 0, op, api.Range{From: 1, To: 2, Lead: true}, 1, told{one(1, "b", ""), bytesIn(api.Small, "b", 1)}},
		{"a\nb", 0, op, api.Range{From: 1, To: 3, Lead: true}, 1, told{one(1, "\nb", ""), bytesIn(api.Deleted, "\nb", 1)}},
		// Lines: the cursor is on the line that came in the place of the first, or on the last one.
		{"a\n  b\nc", 0, op, whole(0, 2), 1, told{one(0, "a\n", ""), linesIn(api.Deleted, "a\n", 2)}},
		{"a\nb\n \tc", 3, op, whole(2, 4), 1, told{one(2, "b\n", ""), linesIn(api.Deleted, "b\n", 4)}},
		{" a\nb\nc", 6, op, lead(2, 6), 1, told{one(2, "\nb\nc", ""), linesIn(api.Deleted, "b\nc\n", 1)}},
		{"a\n \t\nc", 6, op, lead(4, 6), 1, told{one(4, "\nc", ""), linesIn(api.Deleted, "c\n", 3)}},
		{"a\nb", 0, op, whole(0, 3), 1, told{one(0, "a\nb", ""), linesIn(api.Deleted, "a\nb\n", 0)}},
		{"a\n", 2, op, lead(1, 2), 1, told{one(1, "\n", ""), linesIn(api.Deleted, "\n", 0)}},
		{"a\n", 0, op, whole(0, 2), 1, told{one(0, "a\n", ""), linesIn(api.Deleted, "a\n", 0)}},
		{"a\n", 2, op, whole(0, 2), 1, told{one(0, "a\n", ""), linesIn(api.Deleted, "a\n", 0)}},
		{"\n", 0, op, whole(0, 1), 1, told{one(0, "\n", ""), linesIn(api.Deleted, "\n", 0)}},
		{"\n\nx", 1, op, whole(1, 2), 1, told{one(1, "\n", ""), linesIn(api.Deleted, "\n", 1)}},
		// at needn't be in the range.
		{"a\nb\nc", 0, op, whole(2, 4), 1, told{one(2, "b\n", ""), linesIn(api.Deleted, "b\n", 2)}},
	})
}

func TestReplaceByHand(t *testing.T) {
	const op = "c"
	holdDo(t, []asked{
		{"abc", 0, op, plain(1, 3), 1, told{one(1, "bc", ""), typing(bytesIn(api.Small, "bc", 1))}},
		{"a\nbc", 0, op, plain(1, 3), 1, told{one(1, "\nb", ""), typing(bytesIn(api.Deleted, "\nb", 1))}},
		{"abc", 0, op, plain(3, 3), 7, told{nil, typing(rests(3))}}, {"a\nb", 3, op, plain(1, 1), 1, told{nil, typing(rests(1))}},
		// Lines: a line without bytes is left, with the line end that was behind it or ahead of it.
		{"a\nb\nc", 0, op, whole(2, 4), 1, told{one(2, "b", ""), typing(linesIn(api.Deleted, "b\n", 2))}},
		{"a\nb\nc", 0, op, whole(0, 4), 1, told{one(0, "a\nb", ""), typing(linesIn(api.Deleted, "a\nb\n", 0))}},
		{"a\nb\nc", 0, op, lead(1, 5), 1, told{one(2, "b\nc", ""), typing(linesIn(api.Deleted, "b\nc\n", 2))}},
		{"  a", 0, op, whole(0, 3), 1, told{one(0, "  a", ""), typing(linesIn(api.Deleted, "  a\n", 0))}},
		{"", 0, op, whole(0, 0), 1, told{nil, typing(linesIn(api.Deleted, "\n", 0))}},
		// One range for all lines, and for all but a last one without bytes: at tells which, and the lower last line if both have it.
		{"a\n", 0, op, whole(0, 2), 1, told{one(0, "a", ""), typing(linesIn(api.Deleted, "a\n", 0))}},
		{"a\n", 1, op, whole(0, 2), 1, told{one(0, "a", ""), typing(linesIn(api.Deleted, "a\n", 0))}},
		{"a\n", 2, op, whole(0, 2), 1, told{one(0, "a\n", ""), typing(linesIn(api.Deleted, "a\n", 0))}},
		{"a\nb\n", 2, op, whole(0, 4), 1, told{one(0, "a\nb", ""), typing(linesIn(api.Deleted, "a\nb\n", 0))}},
		{"a\nb\n", 4, op, whole(0, 4), 1, told{one(0, "a\nb\n", ""), typing(linesIn(api.Deleted, "a\nb\n", 0))}},
		{"\n", 0, op, whole(0, 1), 1, told{nil, typing(linesIn(api.Deleted, "\n", 0))}},
		{"\n", 1, op, whole(0, 1), 1, told{one(0, "\n", ""), typing(linesIn(api.Deleted, "\n", 0))}},
		{"\n\n", 1, op, whole(0, 2), 1, told{one(0, "\n", ""), typing(linesIn(api.Deleted, "\n\n", 0))}},
		{"\n\n", 2, op, whole(0, 2), 1, told{one(0, "\n\n", ""), typing(linesIn(api.Deleted, "\n\n", 0))}},
		// Another line than the first begins no such range, and with bytes in the last line there is but one.
		{"a\n\n", 3, op, whole(2, 3), 1, told{nil, typing(linesIn(api.Deleted, "\n", 2))}},
		{"a\nb", 2, op, whole(0, 2), 1, told{one(0, "a", ""), typing(linesIn(api.Deleted, "a\n", 0))}},
	})
}

func TestYankByHand(t *testing.T) {
	const op = "y"
	holdDo(t, []asked{
		{"abc", 2, op, plain(1, 3), 1, told{nil, bytesIn(api.Yanked, "bc", 1)}},
		{"a\nb", 2, op, plain(0, 3), 1, told{nil, bytesIn(api.Yanked, "a\nb", 0)}},
		{"abc", 2, op, plain(1, 1), 1, refused(api.ErrOper)},
		{"", 0, op, whole(0, 0), 1, told{nil, linesIn(api.Yanked, "\n", 0)}},
		// Lines: the cursor keeps its column, in the first of them.
		{"abc\ndef", 6, op, whole(0, 7), 1, told{nil, linesIn(api.Yanked, "abc\ndef\n", 2)}},
		{"ab\ndef", 6, op, whole(0, 6), 1, told{nil, linesIn(api.Yanked, "ab\ndef\n", 1)}},
		{"\ndef", 4, op, whole(0, 4), 1, told{nil, linesIn(api.Yanked, "\ndef\n", 0)}},
		{"abc\ndef", 1, op, lead(3, 7), 1, told{nil, linesIn(api.Yanked, "def\n", 5)}},
		{"abc\ndef", 7, op, lead(3, 7), 1, told{nil, linesIn(api.Yanked, "def\n", 6)}},
		{"  a\n", 4, op, lead(3, 4), 1, told{nil, linesIn(api.Yanked, "\n", 4)}},
		{"  a\n", 4, op, whole(0, 4), 1, told{nil, linesIn(api.Yanked, "  a\n", 0)}},
	})
}

func TestIndentByHand(t *testing.T) {
	const op = ">"
	holdDo(t, []asked{
		{"a", 0, op, plain(0, 1), 1, told{one(0, "", "\t"), rests(1)}}, {"a", 0, op, whole(0, 1), 3, told{one(0, "", "\t\t\t"), rests(3)}},
		{"a\n b", 0, op, lead(1, 4), 1, told{one(2, "", "\t"), rests(4)}}, {" \t", 0, op, whole(0, 2), 1, told{one(0, "", "\t"), rests(2)}},
		{"a\nb\nc\n", 0, op, whole(2, 6), 1, told{[]swap{{2, "", "\t"}, {5, "", "\t"}}, rests(3)}},
		// Lines without bytes are passed over; the cursor is in the first line all the same.
		{"\na", 0, op, whole(0, 2), 1, told{one(1, "", "\t"), rests(0)}}, {"", 0, op, whole(0, 0), 1, told{nil, rests(0)}}, {"x\n\n\n", 2, op, whole(2, 3), 5, told{nil, rests(2)}},
		// Bytes stand for their lines; a range that ends behind a line end ends in the line that ends there.
		{"ab\ncd", 0, op, plain(1, 2), 1, told{one(0, "", "\t"), rests(1)}}, {"ab\ncd", 0, op, plain(1, 3), 1, told{one(0, "", "\t"), rests(1)}},
		{"ab\ncd", 0, op, plain(1, 4), 1, told{[]swap{{0, "", "\t"}, {4, "", "\t"}}, rests(1)}}, {"ab\ncd", 0, op, plain(2, 3), 1, told{one(0, "", "\t"), rests(1)}}, {"ab\ncd", 0, op, plain(4, 5), 1, told{one(3, "", "\t"), rests(4)}},
		{"ab\ncd", 0, op, plain(1, 1), 1, refused(api.ErrOper)},
	})
}

func TestOutdentByHand(t *testing.T) {
	const op = "<"
	eight := strings.Repeat(" ", 8)
	holdDo(t, []asked{
		{"\ta", 0, op, whole(0, 2), 1, told{one(0, "\t", ""), rests(0)}}, {"\t\ta", 0, op, whole(0, 3), 1, told{one(0, "\t", ""), rests(1)}}, {"\t\ta", 0, op, whole(0, 3), 2, told{one(0, "\t\t", ""), rests(0)}},
		{"   a", 0, op, plain(0, 1), 1, told{one(0, "   ", ""), rests(0)}}, {eight + "a", 0, op, plain(0, 1), 1, told{one(0, eight, ""), rests(0)}}, {eight + " a", 0, op, plain(0, 1), 1, told{one(0, eight, ""), rests(1)}},
		{eight + " a", 0, op, plain(0, 1), 2, told{one(0, eight+" ", ""), rests(0)}}, {eight + " a", 0, op, plain(0, 1), 9999, told{one(0, eight+" ", ""), rests(0)}},
		// Each time it is one byte 9 or some bytes 32, whichever stand at the head then.
		{" \ta", 0, op, plain(0, 1), 1, told{one(0, " ", ""), rests(1)}}, {" \ta", 0, op, plain(0, 1), 2, told{one(0, " \t", ""), rests(0)}}, {"\t   a", 0, op, plain(0, 1), 1, told{one(0, "\t", ""), rests(3)}}, {"\t   \t a", 0, op, plain(0, 1), 3, told{one(0, "\t   \t", ""), rests(1)}},
		{eight + "\ta", 0, op, plain(0, 1), 1, told{one(0, eight, ""), rests(1)}}, {eight + eight + "\ta", 0, op, plain(0, 1), 2, told{one(0, eight+eight, ""), rests(1)}},
		// Nothing to take away: no edit, but not refused either.
		{"a", 0, op, plain(0, 1), 1, told{nil, rests(0)}}, {"a  ", 0, op, whole(0, 3), 1, told{nil, rests(0)}}, {"", 0, op, whole(0, 0), 1, told{nil, rests(0)}}, {"\r a", 0, op, whole(0, 3), 1, told{nil, rests(0)}}, {"\n \n", 0, op, whole(0, 1), 1, told{nil, rests(0)}},
		{"  ", 0, op, whole(0, 2), 1, told{one(0, "  ", ""), rests(0)}}, {" \n ", 0, op, whole(0, 2), 1, told{one(0, " ", ""), rests(0)}},
		// Each line for itself, at its place in the text as it stands.
		{"\ta\nb\n  c\n\t d", 0, op, whole(0, 12), 1, told{[]swap{{0, "\t", ""}, {4, "  ", ""}, {6, "\t", ""}}, rests(0)}},
		{"a\n\tb\n\n c", 0, op, lead(1, 8), 1, told{[]swap{{2, "\t", ""}, {5, " ", ""}}, rests(2)}},
		{" a\n b", 0, op, plain(1, 3), 1, told{one(0, " ", ""), rests(0)}}, {" a\n b", 0, op, plain(1, 4), 1, told{[]swap{{0, " ", ""}, {2, " ", ""}}, rests(0)}},
		{" a", 0, op, plain(1, 1), 1, refused(api.ErrOper)},
	})
}

func TestLettersByHand(t *testing.T) {
	holdDo(t, []asked{
		{"aB1_", 2, "g~", plain(0, 4), 1, told{one(0, "aB1_", "Ab1_"), rests(0)}}, {"aB1_", 2, "gu", plain(0, 4), 1, told{one(0, "aB1_", "ab1_"), rests(0)}}, {"aB1_", 2, "gU", plain(0, 4), 1, told{one(0, "aB1_", "AB1_"), rests(0)}},
		// The edit isn't cut down, and there is none where nothing changes.
		{"abA", 2, "gu", plain(1, 3), 1, told{one(1, "bA", "ba"), rests(1)}}, {"abA", 2, "gu", plain(0, 2), 1, told{nil, rests(0)}}, {"a1B", 2, "g~", plain(1, 2), 1, told{nil, rests(1)}}, {"a1B", 0, "gU", plain(1, 3), 1, told{nil, rests(1)}},
		{"\xe4\xc4", 0, "g~", plain(0, 2), 1, told{nil, rests(0)}}, {"`{@[", 0, "g~", plain(0, 4), 1, told{nil, rests(0)}},
		{"a\nb", 0, "gU", plain(0, 3), 1, told{one(0, "a\nb", "A\nB"), rests(0)}}, {"ab", 0, "gU", plain(1, 1), 1, refused(api.ErrOper)},
		// Lines: the bytes of the range, with the line end ahead, and the cursor in its column.
		{"ab\ncd", 4, "gU", lead(2, 5), 1, told{one(2, "\ncd", "\nCD"), rests(4)}}, {"ab\ncd", 4, "gU", whole(0, 5), 1, told{one(0, "ab\ncd", "AB\nCD"), rests(1)}}, {"ab\ncde", 5, "g~", whole(0, 3), 1, told{one(0, "ab\n", "AB\n"), rests(1)}},
		{"", 0, "g~", whole(0, 0), 1, told{nil, rests(0)}}, {"AB\nx", 3, "gU", whole(0, 3), 1, told{nil, rests(0)}},
	})
}

func TestWrongDo(t *testing.T) {
	wrong := refused(api.ErrArg)
	const text = "ab\nc\n"
	for _, op := range append(operators(), "", "x", "dd") {
		for _, at := range []int{-1, 6, math.MinInt, math.MaxInt, 1 << 32} {
			holdDo(t, []asked{{text, at, op, plain(0, 1), 1, wrong}, {text, at, op, whole(0, 5), 1, wrong}, {text, at, op, plain(0, 0), 1, wrong}, {"", max(at, 1), op, whole(0, 0), 1, wrong}})
		}
		for _, count := range []int{0, -1, 10000, math.MinInt, math.MaxInt, 1<<32 + 1} {
			holdDo(t, []asked{{text, 0, op, plain(0, 1), count, wrong}, {text, 0, op, whole(0, 5), count, wrong}, {text, 0, op, plain(1, 1), count, wrong}, {"", 0, op, whole(0, 0), count, wrong}})
		}
		for _, r := range []api.Range{
			plain(-1, 1), plain(0, 6), plain(2, 1), plain(6, 6), plain(-1, -1), plain(0, -1), plain(math.MinInt, math.MaxInt), plain(math.MaxInt, math.MinInt), plain(0, math.MinInt), plain(0, math.MaxInt), plain(math.MinInt, math.MinInt), plain(math.MaxInt, math.MaxInt), plain(1<<32, 1<<32),
			whole(0, 1), whole(0, 2), whole(1, 3), whole(2, 3), whole(3, 4), whole(5, 5), whole(0, 0), whole(3, 3), whole(0, 4), whole(4, 5), whole(0, 6), whole(-1, 3), whole(3, 0), whole(math.MinInt, math.MaxInt), whole(math.MaxInt, math.MinInt), whole(0, math.MinInt),
			lead(0, 3), lead(0, 5), lead(2, 3), lead(3, 5), lead(2, 4), lead(4, 4), lead(5, 5), lead(2, 6), lead(-1, 5), lead(math.MinInt, 5), lead(math.MaxInt, math.MaxInt), lead(4, math.MaxInt), lead(4, math.MinInt),
		} {
			holdDo(t, []asked{{text, 0, op, r, 1, wrong}, {text, 5, op, r, 1, wrong}})
		}
		holdDo(t, []asked{{"", 0, op, lead(0, 0), 1, wrong}, {"a", 0, op, lead(0, 1), 1, wrong}, {"a", 0, op, whole(1, 1), 1, wrong}, {"a", 0, op, whole(0, 0), 1, wrong}})
	}
}

// Each text of up to two bytes as an operator: just the eight are taken, and no longer text is.
func TestEveryOperator(t *testing.T) {
	list := []string{"", "dd", "yy", ">>", "<<", "g~~", "gud", "d ", " d", "d\x00", "\x00d", "g~g~", "gugu", "gUU", "2d", "=", "!", "gq", "g?", "\uff44", strings.Repeat("d", 1000)}
	for a := range 256 {
		list = append(list, string([]byte{byte(a)}))
		for b := range 256 {
			list = append(list, string([]byte{byte(a), byte(b)}))
		}
	}
	took := 0
	for _, op := range list {
		got := do("ab\nc", 1, op, plain(1, 2), 1)
		switch known := slices.Contains(operators(), op); {
		case got.e == api.OK && known:
			took++
		case !got.is(refused(api.ErrArg)) || known:
			t.Errorf("the operator %q: %v", op, got)
		}
	}
	if took != 8 {
		t.Errorf("%d were taken", took)
	}
}

// A held text is one whose calls of Do are held against the second reading.
type held struct {
	t     *testing.T
	bytes []byte
	reading
}

func hold(t *testing.T, text string) held { return held{t, []byte(text), read(text)} }

func (h held) do(at int, op string, r api.Range, count int) {
	x, e := oper.Do(h.bytes, at, op, r, count)
	got, want := tell(x, e), h.reading.do(at, op, r, count)
	if !got.is(want) {
		h.t.Fatalf("Do(%.99q, %d, %q, %+v, %d) = %v; want %v", h.text, at, op, r, count, got, want)
	}
	fits(h.t, h.bytes, x, e)
}

// fits: P19.2, and that each edit does something.
func fits(t *testing.T, text []byte, x api.Effect, e api.Errno) {
	if e != api.OK {
		return
	}
	behind, wrong := change.Apply(text, x.Edits)
	if wrong != api.OK || x.Cursor < 0 || x.Cursor > len(behind) {
		t.Fatalf("%.99q: the effect %v doesn't fit", text, tell(x, e))
	}
	for _, e := range x.Edits {
		if bytes.Equal(e.Old, e.New) {
			t.Fatalf("%.99q: an edit of %v does nothing", text, tell(x, 0))
		}
	}
}

// each calls do with every operator at every place, > and < with some counts.
func (h held) each(r api.Range) {
	for at := range len(h.text) + 1 {
		for _, op := range operators() {
			h.do(at, op, r, 1)
			if op == ">" || op == "<" {
				h.do(at, op, r, 2)
				h.do(at, op, r, 3)
			}
		}
	}
}

// right holds all ranges that are right.
func (h held) right() {
	for to := range len(h.text) + 1 {
		for from := range to + 1 {
			h.each(plain(from, to))
		}
	}
	for r := range h.whole {
		h.each(r)
	}
}

// any holds all ranges, some that are not of the text among them.
func (h held) any() {
	for to := -1; to <= len(h.text)+1; to++ {
		for from := -1; from <= len(h.text)+1; from++ {
			for flags := range 4 {
				h.each(api.Range{From: from, To: to, Lines: flags&1 > 0, Lead: flags&2 > 0})
			}
		}
	}
}

// short are all strings of up to most of the letters.
func short(letters string, most int) []string {
	list := []string{""}
	for i := 0; i < len(list); i++ {
		for j := range len(letters) {
			if len(list[i]) < most {
				list = append(list, list[i]+letters[j:j+1])
			}
		}
	}
	return list
}

func TestDoInShortTexts(t *testing.T) {
	for _, text := range short("a \n", 3) {
		hold(t, text).any()
	}
	for _, text := range short("\tB\n", 3) {
		hold(t, text).any()
	}
	for _, text := range append(short("a\n", 6), short(" b\n", 5)...) {
		hold(t, text).right()
	}
	for _, text := range short(" \tx\n", 4) {
		hold(t, text).right()
	}
}

// Each byte alone, at a line's head, ahead of its end, and as a whole line.
func TestDoWithEveryByte(t *testing.T) {
	for b := range 256 {
		one := string([]byte{byte(b)})
		for _, text := range []string{one, one + "z\n" + one, " " + one + "\n\t", "Z\n" + one + "\n"} {
			hold(t, text).right()
		}
	}
}

// A picker is a plain row of numbers, the same in every run.
type picker uint64

func (p *picker) below(n int) int {
	*p = *p*6364136223846793005 + 1442695040888963407
	return int(uint64(*p)>>33) % n
}

// text is of many line ends, blanks and letters.
func (p *picker) text(length int) string {
	text := make([]byte, length)
	for i := range text {
		switch p.below(8) {
		case 0, 1:
			text[i] = '\n'
		case 2, 3, 4:
			text[i] = "   \t"[p.below(4)]
		case 5:
			text[i] = "aZ)"[p.below(3)]
		default:
			text[i] = byte(p.below(256))
		}
	}
	return string(text)
}

// count is a number that a count may be, mostly a small one.
func (p *picker) count() int { return 1 + p.below([]int{3, 3, 20, 9999}[p.below(4)]) }

func TestDoInPickedTexts(t *testing.T) {
	p := picker(19)
	for range 300 {
		h := hold(t, p.text(p.below(40)))
		for range 200 {
			from := p.below(len(h.text) + 1)
			h.do(p.below(len(h.text)+1), operators()[p.below(8)], plain(from, from+p.below(len(h.text)+1-from)), p.count())
		}
		last := strings.Count(h.text, "\n")
		for range 300 {
			a := p.below(last + 1)
			r := wordWhole(h.text, a, a+p.below(last+1-a))
			h.do(p.below(len(h.text)+1), operators()[p.below(8)], r, p.count())
		}
	}
}

// > takes as many bytes 9 as MaxText together, in lines with bytes alone, and not one more.
func TestIndentAtItsLimit(t *testing.T) {
	for _, c := range []struct {
		lines, empty, count int
		e                   api.Errno
	}{
		{4096, 5, 16, api.OK}, {4096, 5, 17, api.ErrLong}, {4097, 5, 16, api.ErrLong}, {8, 0, 8192, api.OK}, {8, 9, 8193, api.ErrLong}, {6, 0, 9999, api.OK}, {7, 0, 9999, api.ErrLong}, {2048, 3, 32, api.OK}, {2049, 3, 32, api.ErrLong}, {0, 9, 9999, api.OK}, {1, 60000, 9999, api.OK},
	} {
		text := strings.Repeat("\n", c.empty) + strings.Repeat("x\n", c.lines)
		x, e := oper.Do([]byte(text), 0, ">", whole(0, len(text)), c.count)
		if e != c.e {
			t.Errorf("%d times over %d lines: %d", c.count, c.lines, e)
		}
		if e != api.OK {
			if !tell(x, e).is(refused(e)) {
				t.Errorf("beside %d: %v", e, tell(x, e))
			}
			continue
		}
		tabs := strings.Repeat("\t", c.count)
		got, e := change.Apply([]byte(text), x.Edits)
		if want := strings.Repeat("\n", c.empty) + strings.Repeat(tabs+"x\n", c.lines); e != api.OK || string(got) != want || len(x.Edits) != c.lines {
			t.Errorf("%d times over %d lines: %d edits, %d", c.count, c.lines, len(x.Edits), e)
		}
		if want := wordFirst(string(got), 0); x.Cursor != want {
			t.Errorf("%d times over %d lines: the cursor at %d", c.count, c.lines, x.Cursor)
		}
	}
	// The limit is asked of all lines together ahead of the first edit, and by > alone.
	text := strings.Repeat(" ", api.MaxText) + "x"
	for _, op := range []string{"d", "c", "y", "<", "g~"} {
		if x, e := oper.Do([]byte(text), 0, op, whole(0, len(text)), 9999); e != api.OK {
			t.Errorf("%s: %v", op, tell(x, e))
		}
	}
}

func TestOutdentOfGreatMargins(t *testing.T) {
	for _, c := range []struct {
		byte             string
		size, count, out int
	}{{" ", 65536, 8191, 65528}, {" ", 65536, 8192, 65536}, {" ", 65536, 9999, 65536}, {"\t", 65536, 9999, 9999}, {"\t", 9999, 9999, 9999}, {"\t", 9998, 9999, 9998}, {" ", 200000, 9999, 79992}} {
		text := strings.Repeat(c.byte, c.size) + "x"
		want := told{one(0, text[:c.out], ""), rests(c.size - c.out)}
		if got := do(text, 5, "<", plain(1, 2), c.count); !got.is(want) {
			t.Errorf("%d of %d times %q: %v", c.count, c.size, c.byte, got)
		}
	}
}

// A text may be longer than what a machine holds: Do has no limit of its own but that of >.
func TestDoInGreatTexts(t *testing.T) {
	const lines = 100000
	text := "x\n" + strings.Repeat(" Y\n", lines)
	size := len(text)
	for _, c := range []struct {
		op   string
		r    api.Range
		at   int
		want told
	}{
		{"d", whole(0, size), 0, told{one(0, text, ""), linesIn(api.Deleted, text, 0)}},
		{"c", whole(0, size), 3, told{one(0, text[:size-1], ""), typing(linesIn(api.Deleted, text, 0))}},
		{"c", whole(0, size), size, told{one(0, text, ""), typing(linesIn(api.Deleted, text, 0))}},
		{"d", lead(1, size), 3, told{one(1, text[1:], ""), linesIn(api.Deleted, text[2:]+"\n", 0)}},
		{"d", plain(3, size), 3, told{one(3, text[3:], ""), bytesIn(api.Deleted, text[3:], 3)}},
		{"gu", whole(2, 5), size - 2, told{one(2, " Y\n", " y\n"), rests(3)}},
		{"gu", plain(2, size), 0, told{one(2, text[2:], strings.ToLower(text[2:])), rests(2)}},
	} {
		if got := do(text, c.at, c.op, c.r, 1); !got.is(c.want) {
			t.Errorf("%s of %+v: %v; want %v", c.op, c.r, got, c.want)
		}
	}
	x, e := oper.Do([]byte(text), 0, "<", whole(0, size), 1)
	if e != api.OK || len(x.Edits) != lines || x.Cursor != 0 {
		t.Fatalf("<: %d edits, %d, %d", len(x.Edits), x.Cursor, e)
	}
	for i, e := range x.Edits {
		if e.At != 2+2*i || string(e.Old) != " " || len(e.New) > 0 {
			t.Fatalf("< of line %d: %v", i+1, e)
		}
	}
}
