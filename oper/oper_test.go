package oper_test

import (
	"math"
	"strings"
	"testing"

	"quoin/api"
	"quoin/change"
	"quoin/oper"
)

func reg(text string) api.Reg { return api.Reg{Set: true, Text: []byte(text)} }

func lineReg(text string) api.Reg { return api.Reg{Set: true, Lines: true, Text: []byte(text)} }

// held calls ask the function itself, hold the answer against the second reading and against P19.2, and tell it.

func heldPut(t *testing.T, text string, at, count int, r api.Reg, ahead bool) told {
	t.Helper()
	x, e := oper.Put([]byte(text), at, count, r, ahead)
	got, want := tell(x, e), wordPut(text, at, count, r, ahead)
	if !got.is(want) {
		t.Fatalf("Put(%.99q, %d, %d, %.99q (lines %v), %v) = %v; want %v", text, at, count, r.Text, r.Lines, ahead, got, want)
	}
	fits(t, []byte(text), x, e)
	return got
}

func heldOver(t *testing.T, text string, at, count int, b byte) told {
	t.Helper()
	x, e := oper.Over([]byte(text), at, count, b)
	got, want := tell(x, e), wordOver(text, at, count, b)
	if !got.is(want) {
		t.Fatalf("Over(%.99q, %d, %d, %d) = %v; want %v", text, at, count, b, got, want)
	}
	fits(t, []byte(text), x, e)
	return got
}

// A counted call is Turn or Join.
type counted struct {
	name string
	call func(t []byte, at, count int) (api.Effect, api.Errno)
	word func(t string, at, count int) told
}

func turn() counted { return counted{"Turn", oper.Turn, wordTurn} }
func join() counted { return counted{"Join", oper.Join, wordJoin} }

func (c counted) held(t *testing.T, text string, at, count int) told {
	t.Helper()
	x, e := c.call([]byte(text), at, count)
	got, want := tell(x, e), c.word(text, at, count)
	if !got.is(want) {
		t.Fatalf("%s(%.99q, %d, %d) = %v; want %v", c.name, text, at, count, got, want)
	}
	fits(t, []byte(text), x, e)
	return got
}

func heldEnter(t *testing.T, text string, at int, key string) told {
	t.Helper()
	x, e := oper.Enter([]byte(text), at, key)
	got, want := tell(x, e), wordEnter(text, at, key)
	if !got.is(want) {
		t.Fatalf("Enter(%.99q, %d, %q) = %v; want %v", text, at, key, got, want)
	}
	fits(t, []byte(text), x, e)
	return got
}

func TestPutByHand(t *testing.T) {
	const behind, ahead = false, true
	for _, c := range []struct {
		text      string
		at, count int
		r         api.Reg
		ahead     bool
		want      told
	}{
		{"ab", 0, 2, reg("xy"), behind, told{one(1, "", "xyxy"), rests(4)}},
		{"ab", 0, 1, lineReg("l\n"), behind, told{one(2, "", "\nl"), rests(3)}},
		{"ab", 0, 1, lineReg("l\n"), ahead, told{one(0, "", "l\n"), rests(0)}},
		// Behind a byte of the line; at its end, and ahead, at the place itself.
		{"ab", 1, 1, reg("x"), behind, told{one(2, "", "x"), rests(2)}}, {"ab", 2, 1, reg("xy"), behind, told{one(2, "", "xy"), rests(3)}}, {"ab", 1, 1, reg("xy"), ahead, told{one(1, "", "xy"), rests(2)}},
		{"a\nb", 1, 1, reg("x"), behind, told{one(1, "", "x"), rests(1)}}, {"\n", 0, 1, reg("x"), behind, told{one(0, "", "x"), rests(0)}}, {"a\n", 2, 1, reg("x"), behind, told{one(2, "", "x"), rests(2)}}, {"", 0, 3, reg("x"), behind, told{one(0, "", "xxx"), rests(2)}},
		{"a\rb", 1, 1, reg("x"), behind, told{one(2, "", "x"), rests(2)}},
		// With a line end among the bytes the cursor is at the first of them.
		{"ab", 0, 1, reg("x\ny"), behind, told{one(1, "", "x\ny"), rests(1)}}, {"ab", 0, 2, reg("\n"), behind, told{one(1, "", "\n\n"), rests(1)}}, {"ab", 1, 1, reg("\ny"), ahead, told{one(1, "", "\ny"), rests(1)}}, {"ab", 2, 1, reg("y\n"), behind, told{one(2, "", "y\n"), rests(2)}},
		{"ab", 1, 9999, reg(""), behind, told{nil, rests(1)}}, {"ab", 2, 1, reg(""), ahead, told{nil, rests(2)}}, {"", 0, 1, reg(""), behind, told{nil, rests(0)}},
		// Lines: behind and ahead of at's line, the cursor at the first byte that isn't blank.
		{"a\nb", 0, 1, lineReg(" \tl\n"), behind, told{one(2, "", " \tl\n"), rests(4)}}, {"a\nb", 1, 2, lineReg("l\n"), behind, told{one(2, "", "l\nl\n"), rests(2)}}, {"a\nb", 2, 2, lineReg(" l\n"), behind, told{one(3, "", "\n l\n l"), rests(5)}},
		{"a\nb", 3, 1, lineReg("l\n"), ahead, told{one(2, "", "l\n"), rests(2)}}, {"a\nb", 1, 2, lineReg("  \nl\n"), ahead, told{one(0, "", "  \nl\n  \nl\n"), rests(1)}}, {"a\n", 2, 1, lineReg("l\n"), ahead, told{one(2, "", "l\n"), rests(2)}}, {"a\n", 2, 1, lineReg("l\n"), behind, told{one(2, "", "\nl"), rests(3)}}, {"a\n", 0, 1, lineReg("l\n"), behind, told{one(2, "", "l\n"), rests(2)}},
		{"", 0, 1, lineReg("l\n"), behind, told{one(0, "", "\nl"), rests(1)}}, {"", 0, 1, lineReg("l\n"), ahead, told{one(0, "", "l\n"), rests(0)}}, {"", 0, 1, lineReg("k\nl\n"), behind, told{one(0, "", "\nk\nl"), rests(1)}},
		// Lines without their last line end get one, each time.
		{"ab", 0, 2, lineReg("l"), ahead, told{one(0, "", "l\nl\n"), rests(0)}}, {"ab", 0, 2, lineReg("k\nl"), behind, told{one(2, "", "\nk\nl\nk\nl"), rests(3)}}, {"ab", 0, 1, lineReg(""), ahead, told{one(0, "", "\n"), rests(0)}}, {"ab", 0, 2, lineReg(""), behind, told{one(2, "", "\n\n"), rests(3)}}, {"ab", 0, 1, lineReg("\n\n"), ahead, told{one(0, "", "\n\n"), rests(0)}},
	} {
		if got := heldPut(t, c.text, c.at, c.count, c.r, c.ahead); !got.is(c.want) {
			t.Errorf("Put(%q, %d, %d, %q, %v) = %v; want %v", c.text, c.at, c.count, c.r.Text, c.ahead, got, c.want)
		}
	}
}

// The errors of Put, in their order: each call has all the later faults too.
func TestWrongPut(t *testing.T) {
	long, none := reg(strings.Repeat("x", api.MaxText+1)), api.Reg{Lines: true, Text: []byte("x")}
	for _, ahead := range []bool{false, true} {
		for _, c := range []struct {
			at, count int
			r         api.Reg
			e         api.Errno
		}{
			{-1, 0, none, api.ErrArg}, {3, 0, none, api.ErrArg}, {math.MinInt, 1, none, api.ErrArg}, {math.MaxInt, 1, long, api.ErrArg}, {1 << 32, 1, long, api.ErrArg}, {3, 1, reg("x"), api.ErrArg},
			{0, 0, none, api.ErrArg}, {0, -1, none, api.ErrArg}, {0, 10000, long, api.ErrArg}, {0, 10000, reg(""), api.ErrArg}, {0, 0, reg("x"), api.ErrArg}, {0, math.MinInt, long, api.ErrArg}, {0, math.MaxInt, long, api.ErrArg}, {0, 1<<32 + 1, reg("x"), api.ErrArg},
			{0, 1, none, api.ErrEmpty}, {2, 9999, api.Reg{}, api.ErrEmpty}, {0, 1, api.Reg{Text: long.Text}, api.ErrEmpty},
			{0, 1, long, api.ErrLong}, {2, 9999, long, api.ErrLong},
		} {
			if got := heldPut(t, "ab", c.at, c.count, c.r, ahead); !got.is(refused(c.e)) {
				t.Errorf("Put at %d, %d times, %.9q: %v; want %d", c.at, c.count, c.r.Text, got, c.e)
			}
		}
	}
}

// What is put may be MaxText bytes in all; the text that it comes to is not asked.
func TestPutAtItsLimit(t *testing.T) {
	for _, c := range []struct {
		size, count int
		lines       bool
		end         string
		e           api.Errno
	}{
		{65536, 1, false, "", api.OK}, {65537, 1, false, "", api.ErrLong}, {32768, 2, false, "", api.OK}, {32768, 3, false, "", api.ErrLong}, {6, 9999, false, "", api.OK}, {7, 9999, false, "", api.ErrLong}, {256, 256, false, "", api.OK}, {256, 257, false, "", api.ErrLong}, {257, 255, false, "", api.OK}, {257, 256, false, "", api.ErrLong},
		{65535, 1, true, "\n", api.OK}, {65536, 1, true, "\n", api.ErrLong}, {65535, 1, true, "", api.OK}, {65536, 1, true, "", api.ErrLong}, {255, 256, true, "", api.OK}, {255, 257, true, "", api.ErrLong}, {256, 256, true, "", api.ErrLong}, {5, 9999, true, "", api.OK}, {6, 9999, true, "", api.ErrLong}, {65536, 1, false, "\n", api.ErrLong}, {65535, 1, false, "\n", api.OK},
	} {
		r := api.Reg{Set: true, Lines: c.lines, Text: []byte(strings.Repeat("x", c.size) + c.end)}
		for _, text := range []string{"", "ab\nc", strings.Repeat("y", 100000)} {
			for _, ahead := range []bool{false, true} {
				if got := heldPut(t, text, 0, c.count, r, ahead); got.e != c.e {
					t.Errorf("Put of %d bytes, %d times: %d; want %d", c.size, c.count, got.e, c.e)
				}
			}
		}
	}
}

func TestPutInShortTexts(t *testing.T) {
	for _, text := range short("a \n", 4) {
		for at := -1; at <= len(text)+1; at++ {
			for count := range 4 {
				for _, put := range []string{"", "x", "xy", "\n", "x\n", "\nx", "x\ny\n", " \tx", "  ", " \n", "\n\n", "x\n\n"} {
					for flags := range 8 {
						heldPut(t, text, at, count, api.Reg{Set: flags < 6, Lines: flags&1 > 0, Text: []byte(put)}, flags&2 > 0)
					}
				}
			}
		}
	}
}

func TestOverByHand(t *testing.T) {
	for _, c := range []struct {
		text      string
		at, count int
		b         byte
		want      told
	}{
		{"abc", 1, 2, 'x', told{one(1, "bc", "xx"), rests(2)}}, {"abc", 1, 3, 'x', refused(api.ErrOper)}, {"abc", 1, 1, 13, told{one(1, "b", "\n"), rests(2)}},
		{"abc", 0, 3, 10, told{one(0, "abc", "\n"), rests(1)}}, {"abc", 0, 3, 13, told{one(0, "abc", "\n"), rests(1)}}, {"abc", 2, 1, 10, told{one(2, "c", "\n"), rests(3)}}, {"abc", 0, 4, 10, refused(api.ErrOper)},
		// The line alone counts.
		{"ab\ncd", 0, 2, 'x', told{one(0, "ab", "xx"), rests(1)}}, {"ab\ncd", 0, 3, 'x', refused(api.ErrOper)}, {"ab\ncd", 2, 1, 'x', refused(api.ErrOper)}, {"ab\ncd", 2, 1, 10, refused(api.ErrOper)}, {"ab\ncd", 4, 1, 0, told{one(4, "d", "\x00"), rests(4)}}, {"ab", 2, 1, 'x', refused(api.ErrOper)}, {"", 0, 1, 'x', refused(api.ErrOper)}, {"", 0, 9999, 13, refused(api.ErrOper)},
		// The same bytes once more are no edit; the edit isn't cut down.
		{"aab", 0, 2, 'a', told{nil, rests(1)}}, {"aab", 0, 3, 'a', told{one(0, "aab", "aaa"), rests(2)}}, {"a\rb", 1, 1, 13, told{one(1, "\r", "\n"), rests(2)}},
		{"ab", -1, 1, 'x', refused(api.ErrArg)}, {"ab", 3, 1, 'x', refused(api.ErrArg)}, {"ab", 0, 0, 'x', refused(api.ErrArg)}, {"ab", 0, -1, 'x', refused(api.ErrArg)}, {"ab", 0, 10000, 'x', refused(api.ErrArg)}, {"ab", 2, 0, 'x', refused(api.ErrArg)}, {"ab", math.MaxInt, 1, 10, refused(api.ErrArg)}, {"ab", math.MinInt, 1, 10, refused(api.ErrArg)}, {"ab", 0, math.MaxInt, 10, refused(api.ErrArg)}, {"ab", 0, math.MinInt, 10, refused(api.ErrArg)}, {"ab", 0, 1<<32 + 1, 10, refused(api.ErrArg)},
	} {
		if got := heldOver(t, c.text, c.at, c.count, c.b); !got.is(c.want) {
			t.Errorf("Over(%q, %d, %d, %d) = %v; want %v", c.text, c.at, c.count, c.b, got, c.want)
		}
	}
	for _, size := range []int{9998, 9999, 10000} {
		want := refused(api.ErrOper)
		if size >= 9999 {
			want = told{one(0, strings.Repeat("a", 9999), strings.Repeat("x", 9999)), rests(9998)}
		}
		if got := heldOver(t, strings.Repeat("a", size)+"\nb", 0, 9999, 'x'); !got.is(want) {
			t.Errorf("Over of %d bytes: %v", size, got)
		}
	}
}

func TestOverInShortTexts(t *testing.T) {
	for _, text := range short("ab\n", 5) {
		for at := -1; at <= len(text)+1; at++ {
			for count := range 8 {
				for _, b := range []byte("ab\n\r\x00\xff") {
					heldOver(t, text, at, count, b)
				}
			}
		}
	}
	for b := range 256 {
		for under := range 256 {
			text := string([]byte{byte(under), byte(b), byte(under)})
			heldOver(t, text, 0, 1, byte(b))
			heldOver(t, text, 1, 1, byte(b))
			heldOver(t, text, 1, 2, byte(b))
		}
	}
}

// A counting is a call of Turn or Join and what it must answer.
type counting struct {
	text      string
	at, count int
	want      told
}

func (c counted) byHand(t *testing.T, list []counting) {
	t.Helper()
	for _, a := range list {
		if got := c.held(t, a.text, a.at, a.count); !got.is(a.want) {
			t.Errorf("%s(%q, %d, %d) = %v; want %v", c.name, a.text, a.at, a.count, got, a.want)
		}
	}
}

func TestTurnByHand(t *testing.T) {
	wrong, nothing := refused(api.ErrArg), refused(api.ErrOper)
	turn().byHand(t, []counting{
		{"aBc", 0, 9, told{one(0, "aBc", "AbC"), rests(3)}}, {"aBc", 1, 1, told{one(1, "B", "b"), rests(2)}}, {"aBc", 2, 1, told{one(2, "c", "C"), rests(3)}}, {"aBc", 1, 9999, told{one(1, "Bc", "bC"), rests(3)}},
		// The line alone counts, and bytes that are no letters are passed over.
		{"ab\ncd", 1, 5, told{one(1, "b", "B"), rests(2)}}, {"ab\ncd", 3, 1, told{one(3, "c", "C"), rests(4)}}, {"1_.\xe4", 0, 3, told{nil, rests(3)}}, {"1b.", 0, 3, told{one(0, "1b.", "1B."), rests(3)}}, {" ", 0, 1, told{nil, rests(1)}},
		{"", 0, 1, nothing}, {"ab", 2, 1, nothing}, {"a\nb", 1, 1, nothing}, {"\n", 0, 9999, nothing},
		{"ab", -1, 1, wrong}, {"ab", 3, 1, wrong}, {"ab", 0, 0, wrong}, {"ab", 0, -1, wrong}, {"ab", 0, 10000, wrong}, {"ab", 2, 0, wrong}, {"ab", math.MaxInt, 1, wrong}, {"ab", math.MinInt, 1, wrong}, {"ab", 0, math.MaxInt, wrong}, {"ab", 0, math.MinInt, wrong}, {"ab", 0, 1<<32 + 1, wrong},
	})
	const size = 10001
	turn().byHand(t, []counting{{strings.Repeat("a", size), 1, 9999, told{one(1, strings.Repeat("a", 9999), strings.Repeat("A", 9999)), rests(10000)}}, {strings.Repeat("a", size), 3, 9999, told{one(3, strings.Repeat("a", 9998), strings.Repeat("A", 9998)), rests(size)}}})
}

func TestTurnInShortTexts(t *testing.T) {
	for _, text := range append(short("aZ\n", 5), short("a. \n", 4)...) {
		for at := -1; at <= len(text)+1; at++ {
			for count := range 8 {
				turn().held(t, text, at, count)
			}
		}
	}
	for b := range 256 {
		turn().held(t, string([]byte{byte(b), 'x', byte(b)}), 0, 3)
	}
}

func TestJoinByHand(t *testing.T) {
	wrong, nothing := refused(api.ErrArg), refused(api.ErrOper)
	join().byHand(t, []counting{
		{"a\n b\n)", 0, 3, told{[]swap{{1, "\n ", " "}, {3, "\n", ""}}, rests(3)}},
		// Without a count, and with 1, two lines are joined.
		{"a\nb\nc", 0, 0, told{one(1, "\n", " "), rests(1)}}, {"a\nb\nc", 1, 1, told{one(1, "\n", " "), rests(1)}}, {"a\nb\nc", 0, 2, told{one(1, "\n", " "), rests(1)}}, {"a\nb\nc", 0, 3, told{[]swap{{1, "\n", " "}, {3, "\n", " "}}, rests(3)}}, {"a\nb\nc", 3, 0, told{one(3, "\n", " "), rests(3)}},
		// No byte 32: the line has no bytes, or ends with a blank; nothing but blanks stands behind it, or a ).
		{"\nb", 0, 0, told{one(0, "\n", ""), rests(0)}}, {"\n\t b", 0, 0, told{one(0, "\n\t ", ""), rests(0)}}, {"a \nb", 0, 0, told{one(2, "\n", ""), rests(2)}}, {"a\t\n  b", 0, 0, told{one(2, "\n  ", ""), rests(2)}}, {"a\n", 0, 0, told{one(1, "\n", ""), rests(1)}}, {"a\n \t", 0, 0, told{one(1, "\n \t", ""), rests(1)}}, {"a\n)", 0, 0, told{one(1, "\n", ""), rests(1)}}, {"a\n  )", 0, 0, told{one(1, "\n  ", ""), rests(1)}}, {"\n", 0, 0, told{one(0, "\n", ""), rests(0)}}, {"a\n(", 0, 0, told{one(1, "\n", " "), rests(1)}}, {"a\n]", 0, 0, told{one(1, "\n", " "), rests(1)}}, {"a\n\rb", 0, 0, told{one(1, "\n", " "), rests(1)}},
		// Of the text as it stands.
		{"\nb\nc", 0, 3, told{[]swap{{0, "\n", ""}, {1, "\n", " "}}, rests(1)}}, {"a\n\nb", 0, 3, told{[]swap{{1, "\n", ""}, {1, "\n", " "}}, rests(1)}}, {"a\nb \nc", 0, 3, told{[]swap{{1, "\n", " "}, {4, "\n", ""}}, rests(4)}}, {"\n\n\n", 0, 4, told{[]swap{{0, "\n", ""}, {0, "\n", ""}, {0, "\n", ""}}, rests(0)}}, {"a\n  \n\t\nb\n", 0, 4, told{[]swap{{1, "\n  ", ""}, {1, "\n\t", ""}, {1, "\n", " "}}, rests(1)}}, {"x\na \n)\nb", 2, 3, told{[]swap{{4, "\n", ""}, {5, "\n", " "}}, rests(5)}},
		{"", 0, 0, nothing}, {"a", 0, 0, nothing}, {"a", 0, 1, nothing}, {"a\nb", 0, 3, nothing}, {"a\nb", 2, 0, nothing}, {"a\nb", 2, 2, nothing}, {"a\n", 2, 0, nothing}, {"a\nb\nc", 2, 3, nothing}, {"a\nb\nc", 0, 9999, nothing},
		{"a\nb", -1, 0, wrong}, {"a\nb", 4, 2, wrong}, {"a\nb", 0, -1, wrong}, {"a\nb", 0, 10000, wrong}, {"a\nb", math.MinInt, 2, wrong}, {"a\nb", math.MaxInt, 2, wrong}, {"a\nb", 0, math.MinInt, wrong}, {"a\nb", 0, math.MaxInt, wrong}, {"a\nb", 0, 1<<32 + 2, wrong}, {"a", 0, -1, wrong}, {"", 1, 9999, wrong},
	})
}

func TestJoinInShortTexts(t *testing.T) {
	for _, text := range append(short("a )\n", 5), short("\tx\n", 6)...) {
		for at := -1; at <= len(text)+1; at++ {
			for _, count := range []int{-1, 0, 1, 2, 3, 4, 7, 9999} {
				join().held(t, text, at, count)
			}
		}
	}
	for b := range 256 {
		one := string([]byte{byte(b)})
		for _, text := range []string{one + "\n" + one, "a\n" + one + "b", one + "\n \t" + one + "\n" + one} {
			join().held(t, text, 0, 2)
			join().held(t, text, 0, 3)
		}
	}
}

func TestJoinOfManyLines(t *testing.T) {
	text := strings.Repeat("ab\n", 9999) + "ab"
	joined := strings.Repeat("ab ", 9998) + "ab"
	for at, want := range map[int]string{0: joined + "\nab", 3: "ab\n" + joined} {
		x, e := oper.Join([]byte(text), at, 9999)
		behind, wrong := change.Apply([]byte(text), x.Edits)
		if e != api.OK || wrong != api.OK || string(behind) != want || len(x.Edits) != 9998 || x.Cursor != at+9998*3-1 {
			t.Errorf("at %d: %d edits, the cursor at %d, %.99q, %d", at, len(x.Edits), x.Cursor, behind, e)
		}
	}
	if got := join().held(t, text, 6, 9999); !got.is(refused(api.ErrOper)) {
		t.Errorf("one line too few: %v", got)
	}
}

func TestEnterByHand(t *testing.T) {
	types := func(cursor int) told { return told{nil, typing(rests(cursor))} }
	opens := func(at, cursor int) told { return told{one(at, "", "\n"), typing(rests(cursor))} }
	for _, c := range []struct {
		text string
		at   int
		key  string
		want told
	}{
		{"ab", 1, "o", opens(2, 3)}, {"ab", 1, "O", opens(0, 0)}, {"", 0, "o", opens(0, 1)}, {"", 0, "O", opens(0, 0)},
		{"ab\ncd\n", 4, "o", opens(5, 6)}, {"ab\ncd\n", 5, "O", opens(3, 3)}, {"ab\ncd\n", 6, "o", opens(6, 7)}, {"ab\ncd\n", 6, "O", opens(6, 6)}, {"ab\ncd\n", 2, "o", opens(2, 3)}, {"  ab", 3, "O", opens(0, 0)}, {"  ab", 0, "o", opens(4, 5)},
		{"ab", 1, "i", types(1)}, {"ab", 2, "i", types(2)}, {"ab", 0, "R", types(0)}, {"a\nb", 1, "R", types(1)}, {"", 0, "i", types(0)}, {"", 0, "R", types(0)},
		{"ab", 0, "a", types(1)}, {"ab", 1, "a", types(2)}, {"ab", 2, "a", types(2)}, {"a\nb", 1, "a", types(1)}, {"\n", 0, "a", types(0)}, {"\n", 1, "a", types(1)}, {"", 0, "a", types(0)}, {"a\rb", 1, "a", types(2)},
		{"\t ab\n c", 3, "I", types(2)}, {"\t ab\n c", 7, "I", types(6)}, {"a\n  \nb", 2, "I", types(3)}, {"a\n\nb", 2, "I", types(2)}, {"", 0, "I", types(0)}, {"ab", 2, "I", types(0)},
		{"ab\ncd\n", 0, "A", types(2)}, {"ab\ncd\n", 2, "A", types(2)}, {"ab\ncd\n", 3, "A", types(5)}, {"ab\ncd\n", 6, "A", types(6)}, {"ab", 0, "A", types(2)}, {"", 0, "A", types(0)},
	} {
		if got := heldEnter(t, c.text, c.at, c.key); !got.is(c.want) {
			t.Errorf("Enter(%q, %d, %q) = %v; want %v", c.text, c.at, c.key, got, c.want)
		}
	}
}

func TestEnterInShortTexts(t *testing.T) {
	for _, text := range short("a \n", 5) {
		for at := -2; at <= len(text)+2; at++ {
			for _, key := range []string{"i", "a", "I", "A", "o", "O", "R", "", "r"} {
				heldEnter(t, text, at, key)
			}
		}
	}
	for _, at := range []int{math.MinInt, math.MaxInt, 1 << 32} {
		for _, key := range []string{"i", "a", "I", "A", "o", "O", "R", "x"} {
			if got := heldEnter(t, "ab", at, key); !got.is(refused(api.ErrArg)) {
				t.Errorf("Enter at %d by %q: %v", at, key, got)
			}
		}
	}
}

// Each text of up to two bytes as a key: just the seven are taken, and no longer text is.
func TestEveryKey(t *testing.T) {
	list := []string{"", "gi", "ia", "i ", " i", "i\x00", "\uff49", strings.Repeat("i", 1000)}
	for a := range 256 {
		list = append(list, string([]byte{byte(a)}))
		for b := range 256 {
			list = append(list, string([]byte{byte(a), byte(b)}))
		}
	}
	took := 0
	for _, key := range list {
		if got := heldEnter(t, "ab\nc", 1, key); got.e == api.OK {
			took++
		} else if !got.is(refused(api.ErrArg)) {
			t.Errorf("the key %q: %v", key, got)
		}
	}
	if took != 7 {
		t.Errorf("%d were taken", took)
	}
}

func TestPickedTexts(t *testing.T) {
	p := picker(91)
	keys := []string{"i", "a", "I", "A", "o", "O", "R"}
	for range 2000 {
		text := p.text(p.below(60))
		for range 20 {
			at := p.below(len(text) + 1)
			put := api.Reg{Set: true, Lines: p.below(2) > 0, Text: []byte(p.text(p.below(12)))}
			heldPut(t, text, at, p.count(), put, p.below(2) > 0)
			heldOver(t, text, at, 1+p.below(4), byte(p.below(256)))
			turn().held(t, text, at, p.count())
			join().held(t, text, at, p.below(9))
			heldEnter(t, text, at, keys[p.below(7)])
		}
	}
}

// A text may be longer than what a machine holds: only what is put has a limit.
func TestGreatTexts(t *testing.T) {
	p := picker(3)
	size := 3 * (api.MaxText / 2)
	for _, text := range []string{p.text(size), strings.Repeat("\n", size), strings.Repeat(" ", size), strings.Repeat("aB\n", size/3), strings.Repeat("x", size-1) + "\n", "x\n" + strings.Repeat(" ", size)} {
		for _, at := range []int{-1, 0, 1, 5000, api.MaxText, len(text) - 1, len(text), len(text) + 1} {
			for _, count := range []int{1, 3, 9999} {
				heldPut(t, text, at, count, reg("xy"), count == 1)
				heldPut(t, text, at, count, lineReg(" x\n"), count == 1)
				heldOver(t, text, at, count, 'x')
				turn().held(t, text, at, count)
			}
			join().held(t, text, at, 30)
			for _, key := range []string{"i", "a", "I", "A", "o", "O", "R"} {
				heldEnter(t, text, at, key)
			}
		}
	}
}
