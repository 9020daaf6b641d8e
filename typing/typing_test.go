package typing_test

import (
	"math"
	"strings"
	"testing"

	"quoin/api"
	"quoin/typing"
)

const base = "ab\ncd"

// in and over are typings that nothing is wrong with, where under is what is typed over.
func in(start int, typed string) note { return note{'i', start, 0, 1, typed} }

func over(start, under int, typed string) note { return note{'R', start, under, 1, typed} }

func (n note) times(count int) note {
	n.count = count
	return n
}

// held calls ask the function itself, hold the answer against the second reading, and tell it.

func heldCheck(t *testing.T, base string, n note) api.Errno {
	t.Helper()
	got, want := typing.Check([]byte(base), n.typing()), n.check(base)
	if got != want {
		t.Fatalf("Check(%.99q, %.99v) = %d; want %d", base, n, got, want)
	}
	return got
}

func heldPress(t *testing.T, base string, n note, key byte) pressed {
	t.Helper()
	z, on, e := typing.Press([]byte(base), n.typing(), key)
	got, want := pressed{noted(z), on, e}, n.press(base, key)
	if got != want {
		t.Fatalf("Press(%.99q, %.99v, %d) = %.99v; want %.99v", base, n, key, got, want)
	}
	return got
}

func heldShow(t *testing.T, base string, n note) (string, int) {
	t.Helper()
	text, at := typing.Show([]byte(base), n.typing())
	want, place := n.show(base)
	if string(text) != want || at != place {
		t.Fatalf("Show(%.99q, %.99v) = %.99q, %d; want %.99q, %d", base, n, text, at, want, place)
	}
	return want, at
}

func heldFinish(t *testing.T, base string, n note) told {
	t.Helper()
	edits, place := typing.Finish([]byte(base), n.typing())
	got := told{edits: len(edits), place: place}
	if len(edits) > 0 {
		got.at, got.old, got.new = edits[0].At, string(edits[0].Old), string(edits[0].New)
	}
	if want := n.finish(base); got != want {
		t.Fatalf("Finish(%.99q, %.99v) = %.99v; want %.99v", base, n, got, want)
	}
	return got
}

// heldAll asks all that need no key, and some keys.
func heldAll(t *testing.T, base string, n note) {
	t.Helper()
	heldCheck(t, base, n)
	heldShow(t, base, n)
	heldFinish(t, base, n)
	for _, key := range []byte("x. \t\n\r\x08\x7f\x15\x17\x1b\x00\xe9") {
		heldPress(t, base, n, key)
	}
}

func TestBeginAsTheyAre(t *testing.T) {
	for _, kind := range []byte{'i', 'R', 0, 'x', 255} {
		for _, at := range []int{0, 7, -1, math.MinInt, math.MaxInt} {
			for _, count := range []int{0, 1, 9999, 10000, -1, math.MinInt, math.MaxInt} {
				if got := noted(typing.Begin(kind, at, count)); got != (note{kind, at, 0, count, ""}) {
					t.Errorf("Begin(%d, %d, %d) = %v", kind, at, count, got)
				}
			}
		}
	}
}

func TestPressByHand(t *testing.T) {
	for _, c := range []struct{ typed, key, want string }{
		{"foo(a  ", "\x17", "foo("}, {"foo(", "\x17", "foo"}, {"foo", "\x17", ""}, {"foo  ", "\x17", ""}, {"a  ", "\x17", ""},
		// Blanks alone, and blanks behind a line end: there is no stretch behind them.
		{" \t ", "\x17", ""}, {"a\n \t", "\x17", "a\n"}, {"a\n", "\x17", "a"}, {"a\n\n", "\x17", "a\n"}, {"\n", "\x17", ""}, {"a\nb.", "\x17", "a\nb"}, {"a\nbc", "\x17", "a\n"}, {"a\n..", "\x17", "a\n"}, {"a\n b", "\x17", "a\n "}, {"a\n b ", "\x17", "a\n "},
		{"a.b.", "\x17", "a.b"}, {"a..b", "\x17", "a.."}, {"..a9_Z\x80\xff", "\x17", ".."}, {"a.(!~", "\x17", "a"}, {"a \tb\t ", "\x17", "a \t"},
		{"ab\nc", "\x15", "ab\n"}, {"ab", "\x15", ""}, {"a.b  ", "\x15", ""}, {"\nab", "\x15", "\n"}, {"a\n\n b", "\x15", "a\n\n"},
		{"ab", "\x08", "a"}, {"a", "\x08", ""}, {"a\n", "\x08", "a"}, {"ab", "\x7f", "a"}, {"a\n", "\x7f", "a"}, {"\xc3\xa9", "\x08", "\xc3"},
		{"a", "\n", "a\n"}, {"a", "\r", "a\n"}, {"", "\r", "\n"}, {"", "\t", "\t"}, {"", " ", " "}, {"", "~", "~"}, {"a", "\x80", "a\x80"}, {"a", "\xff", "a\xff"}, {"R", "R", "RR"},
	} {
		for _, n := range []note{in(1, c.typed), over(5, 0, c.typed), in(0, c.typed).times(9999)} {
			want := n
			want.typed = c.want
			if got := heldPress(t, base, n, c.key[0]); got != (pressed{want, true, api.OK}) {
				t.Errorf("Press(%v, %d) = %v; want %q", n, c.key[0], got, c.want)
			}
		}
	}
}

func TestPressOver(t *testing.T) {
	for _, c := range []struct {
		n     note
		key   byte
		under int
	}{
		{over(0, 0, ""), 'x', 1}, {over(0, 1, "x"), 'y', 2}, {over(0, 2, "xy"), 'z', 2}, {over(1, 0, ""), 'x', 1}, {over(1, 1, "x"), 'y', 1}, {over(2, 0, ""), 'x', 0}, {over(3, 1, "\nx"), 'y', 2},
		{over(0, 0, ""), 13, 0}, {over(0, 1, "x"), 13, 1}, {over(0, 1, "x\n"), 'y', 2}, {over(0, 2, "x\ny"), 'z', 2}, {over(5, 0, ""), 'x', 0},
		{over(0, 2, "xyz"), 8, 2}, {over(0, 2, "xy"), 8, 1}, {over(0, 1, "x"), 8, 0}, {over(0, 2, "xyz"), 21, 0}, {over(0, 2, "x\ny"), 21, 1}, {over(0, 2, "xyz"), 23, 0}, {over(0, 2, "x y"), 23, 2}, {over(0, 2, ". y"), 23, 2}, {over(0, 1, "\n."), 23, 0}, {over(0, 1, "x\n"), 23, 1},
	} {
		if got := heldPress(t, base, c.n, c.key); !got.on || got.e != api.OK || got.under != c.under {
			t.Errorf("Press(%v, %d) = %v; want under %d", c.n, c.key, got, c.under)
		}
	}
}

func TestEscape(t *testing.T) {
	for _, n := range []note{in(0, ""), in(5, "a\n"), in(2, "xy ").times(7), over(0, 2, "xyz"), over(1, 0, "").times(9999)} {
		if got := heldPress(t, base, n, 27); got != (pressed{n, false, api.OK}) {
			t.Errorf("Press(%v, 27) = %v", n, got)
		}
	}
}

// Every byte as a key, behind nothing, behind a byte, behind a line end and behind a blank.
func TestEveryKey(t *testing.T) {
	taking := "\x08\x7f\x15\x17"
	for key := range 256 {
		b := byte(key)
		text := b == 9 || b == 10 || b == 13 || b >= 32 && b != 127
		for _, typed := range []string{"", "a", "a\n", "a. "} {
			for _, n := range []note{in(1, typed), over(2, 0, typed)} {
				got := heldPress(t, base, n, b)
				takes := strings.IndexByte(taking, b) >= 0 && typed != "" && !(b == 21 && typed == "a\n")
				switch {
				case got.e == api.OK && got.on != (text || takes), got.e == api.OK && !got.on && b != 27, got.e != api.OK && (text || takes || b == 27), got.e != api.OK && got != refused(api.ErrType):
					t.Errorf("Press(%v, %d) = %v", n, key, got)
				case text && len(got.typed) != len(typed)+1, takes && len(got.typed) >= len(typed):
					t.Errorf("Press(%v, %d) = %v", n, key, got)
				}
			}
		}
	}
}

// Typings of which just one thing is wrong.
func wrong() []note {
	list := []note{{}, {count: 1}, {'x', 0, 0, 1, ""}, {'I', 0, 0, 1, ""}, {'r', 0, 0, 1, ""}, {255, 0, 0, 1, "a"}}
	for _, n := range []note{in(0, ""), over(0, 0, ""), in(3, "x"), over(3, 1, "x")} {
		for _, at := range []int{-1, 6, math.MinInt, math.MaxInt, 1 << 32} {
			m := n
			m.start = at
			list = append(list, m)
		}
		for _, count := range []int{0, -1, 10000, math.MinInt, math.MaxInt, 1<<32 + 1} {
			list = append(list, n.times(count))
		}
		for _, under := range []int{-1, 1, 2, math.MinInt, math.MaxInt, 1 << 32, 1<<32 + 1} {
			if m := n; n.under != under {
				m.under = under
				list = append(list, m)
			}
		}
		for b := range 256 {
			if !isTextByte(byte(b)) {
				list = append(list, note{n.kind, n.start, n.under, n.count, n.typed + string([]byte{byte(b)})}, note{n.kind, 5, 0, n.count, string([]byte{byte(b)}) + "x"}, note{n.kind, 2, 0, n.count, "x" + string([]byte{byte(b)}) + "\n"})
			}
		}
	}
	return append(list, over(0, 0, "x"), over(0, 2, "x"), over(0, 3, "xyz"), over(0, 3, "x\ny"), over(0, 1, "\n"), over(2, 1, "x"), over(5, 1, "x"), over(0, 1, ""), in(0, "\x7f"), in(0, "\r"))
}

func TestWrongTypings(t *testing.T) {
	list := wrong()
	if len(list) < 400 {
		t.Fatalf("only %d", len(list))
	}
	for _, n := range list {
		if e := heldCheck(t, base, n); e != api.ErrArg {
			t.Errorf("Check(%v) = %d", n, e)
		}
		for _, key := range []byte{'a', 8, 10, 13, 21, 23, 27, 0} {
			if got := heldPress(t, base, n, key); got != refused(api.ErrArg) {
				t.Errorf("Press(%v, %d) = %v", n, key, got)
			}
		}
		if text, at := heldShow(t, base, n); text != base || at != 0 {
			t.Errorf("Show(%v) = %q, %d", n, text, at)
		}
		if got := heldFinish(t, base, n); got != (told{}) {
			t.Errorf("Finish(%v) = %v", n, got)
		}
	}
}

func TestShowByHand(t *testing.T) {
	for _, c := range []struct {
		n    note
		text string
		at   int
	}{
		{in(1, "xy"), "axyb\ncd", 3}, {over(1, 1, "xyz"), "axyz\ncd", 4}, {over(0, 2, "x\ny"), "x\ny\ncd", 3},
		{in(0, ""), base, 0}, {in(5, ""), base, 5}, {over(2, 0, ""), base, 2}, {in(5, "\n"), "ab\ncd\n", 6}, {over(5, 0, "q"), "ab\ncdq", 6}, {over(2, 0, "q"), "abq\ncd", 3}, {over(3, 2, "q\nrs"), "ab\nq\nrs", 7},
		{over(0, 0, "\n\n"), "\n\nab\ncd", 2}, {over(0, 1, "\n\nx"), "\n\nxb\ncd", 3}, {in(2, "x").times(9999), "abx\ncd", 3}, {over(0, 2, "ab"), base, 2},
	} {
		if text, at := heldShow(t, base, c.n); text != c.text || at != c.at {
			t.Errorf("Show(%v) = %q, %d; want %q, %d", c.n, text, at, c.text, c.at)
		}
		if e := heldCheck(t, base, c.n); e != api.OK {
			t.Errorf("Check(%v) = %d", c.n, e)
		}
	}
}

func TestFinishByHand(t *testing.T) {
	for _, c := range []struct {
		n     note
		old   string
		new   string
		place int
	}{
		{in(1, "xy").times(3), "", "xyxyxy", 6}, {over(0, 2, "xy").times(2), "ab", "xyxy", 3}, {over(0, 1, "x").times(2), "ab", "xx", 1}, {over(0, 1, "x").times(3), "ab", "xxx", 2}, {over(3, 1, "x"), "c", "x", 3},
		// Behind a line end the place is a line's start, and stays.
		{in(2, "\n"), "", "\n", 3}, {in(2, "\n").times(2), "", "\n\n", 4}, {in(0, "x\n"), "", "x\n", 2}, {over(0, 1, "x\n").times(2), "ab", "x\nx\n", 4}, {over(0, 1, "\nx").times(3), "ab", "\nx\nx\nx", 5}, {over(0, 0, "\n").times(2), "", "\n\n", 2},
		{in(5, "x"), "", "x", 5}, {over(5, 0, "xy").times(2), "", "xyxy", 8}, {over(2, 0, "x"), "", "x", 2},
		// What stands there already is an edit too.
		{over(0, 2, "ab"), "ab", "ab", 1},
	} {
		if got := heldFinish(t, base, c.n); got != (told{1, c.n.start, c.old, c.new, c.place}) {
			t.Errorf("Finish(%v) = %v", c.n, got)
		}
	}
	for at, place := range []int{0, 0, 1, 3, 3, 4} {
		for _, n := range []note{in(at, ""), over(at, 0, "").times(9999)} {
			if got := heldFinish(t, base, n); got != (told{place: place}) {
				t.Errorf("Finish(%v) = %v; want no edit, %d", n, got, place)
			}
		}
	}
	if got := heldFinish(t, "", in(0, "")); got != (told{}) {
		t.Errorf("Finish over nothing: %v", got)
	}
}

// What is exactly at MaxText is taken; Press and Show don't ask for it.
func TestCheckAtItsLimit(t *testing.T) {
	for _, c := range []struct {
		size int
		n    note
		e    api.Errno
	}{
		{65536, in(0, ""), api.OK}, {65537, in(0, ""), api.ErrArg}, {65535, in(7, "x"), api.OK}, {65536, in(7, "x"), api.ErrArg}, {65535, in(65535, "xy"), api.ErrArg},
		{65536, over(7, 1, "x"), api.OK}, {65537, over(7, 1, "x"), api.ErrArg}, {65536, over(65536, 0, "x"), api.ErrArg}, {65535, over(65535, 0, "x"), api.OK}, {65536, over(65535, 1, "xy"), api.ErrArg}, {65536, over(0, 1, "x\n"), api.ErrArg}, {65535, over(0, 1, "x\n"), api.OK},
		{65536, over(0, 0, ""), api.OK}, {65530, in(0, "x").times(9999), api.OK},
	} {
		long := strings.Repeat("y", c.size)
		if e := heldCheck(t, long, c.n); e != c.e {
			t.Errorf("Check of %d bytes, %v: %d; want %d", c.size, c.n, e, c.e)
		}
		heldAll(t, long, c.n)
	}
	great := strings.Repeat("z", 70000)
	if got := heldPress(t, "ab", in(1, great), 'x'); got.typed != great+"x" || !got.on {
		t.Error("Press has asked for a length")
	}
	heldAll(t, "ab", in(1, great))
	heldAll(t, "ab", over(1, 1, great).times(2))
}

// Where all copies would be too long, there is one, whatever the text is with that.
func TestFinishAtItsLimit(t *testing.T) {
	for _, c := range []struct {
		base, typed int
		over        bool
		count       int
		copies      int
	}{
		{65536 - 6, 2, false, 3, 3}, {65536 - 5, 2, false, 3, 1}, {0, 256, false, 256, 256}, {0, 256, false, 257, 1}, {0, 257, false, 256, 1}, {0, 6, false, 9999, 9999}, {0, 7, false, 9999, 1}, {5542, 6, false, 9999, 9999}, {5543, 6, false, 9999, 1},
		{65536, 2, true, 3, 3}, {65536, 4, true, 9999, 9999}, {65536, 6, true, 9999, 9999}, {65536, 7, true, 9999, 1}, {65537, 2, true, 3, 1}, {9, 256, true, 256, 256}, {9, 257, true, 256, 1},
		{65536, 2, false, 1, 1}, {70000, 2, false, 2, 1}, {70000, 2, true, 2, 1}, {0, 65537, false, 1, 1}, {0, 65537, true, 2, 1}, {0, 32768, false, 2, 2}, {0, 32769, false, 2, 1},
	} {
		long, typed := strings.Repeat("y", c.base), strings.Repeat("x", c.typed)
		n := in(0, typed).times(c.count)
		if c.over {
			n = over(0, min(c.base, c.typed), typed).times(c.count)
		}
		got := heldFinish(t, long, n)
		if got.new != strings.Repeat(typed, c.copies) || got.place != c.copies*c.typed-1 || c.over && len(got.old) != min(c.base, c.copies*c.typed) {
			t.Errorf("%+v: %d bytes over %d; %d", c, len(got.new), len(got.old), got.place)
		}
	}
}

// short are all texts of at most so many of these letters.
func short(letters string, most int) []string {
	list := []string{""}
	for i := 0; i < len(list); i++ {
		for j := range len(letters) {
			if len(list[i]) < most {
				list = append(list, list[i]+letters[j:j+1])
			}
		}
	}
	return list
}

// typings are all over a text with what is typed, also those with the wrong under.
func typings(base, typed string, count int) []note {
	var list []note
	for start := -1; start <= len(base)+1; start++ {
		list = append(list, note{'i', start, 0, count, typed}, note{'i', start, 1, count, typed}, note{'x', start, 0, count, typed})
		for under := -1; under <= len(typed)+1; under++ {
			list = append(list, note{'R', start, under, count, typed})
		}
	}
	return list
}

func TestShortTexts(t *testing.T) {
	for _, base := range short("a\n", 4) {
		for _, typed := range short("x\n", 4) {
			for _, n := range typings(base, typed, 1+len(base)%3) {
				heldAll(t, base, n)
			}
		}
		for _, typed := range append(short(".a \n", 3), short("\x1f\x7f\x80\r", 2)...) {
			for _, n := range typings(base, typed, 2) {
				heldAll(t, base, n)
			}
		}
	}
}

// Every short text that can be typed, and all keys that take away behind it.
func TestTakingAway(t *testing.T) {
	for _, typed := range append(short("a. \n", 7), short("\t_\x80(\n", 5)...) {
		for _, key := range []byte{8, 21, 23} {
			heldPress(t, base, in(2, typed), key)
		}
	}
}

func TestEveryByteBehindAWordAndPuncts(t *testing.T) {
	for b := range 256 {
		s := string([]byte{byte(b)})
		for _, typed := range []string{s, "a" + s, "." + s, " " + s, "\n" + s, "a" + s + s, s + "a", s + ".", "a." + s + " ", s + "\n"} {
			heldAll(t, base, in(1, typed))
			heldAll(t, base, over(5, 0, typed))
		}
		heldAll(t, "a"+s+"c", over(0, 2, "xy"))
		heldAll(t, "a"+s+"c", over(0, 1, "xy"))
		heldAll(t, s, in(1, ""))
		heldAll(t, s, note{byte(b), 0, 0, 1, ""})
	}
}

type picker uint64

func (p *picker) below(n int) int {
	*p = *p*6364136223846793005 + 1442695040888963407
	return int(uint64(*p)>>33) % n
}

// text is of many line ends, blanks and letters; all bytes are text bytes.
func (p *picker) text(length int) string {
	text := make([]byte, length)
	for i := range text {
		switch p.below(8) {
		case 0:
			text[i] = '\n'
		case 1, 2:
			text[i] = "  \t"[p.below(3)]
		case 3, 4, 5:
			text[i] = "aZ_)."[p.below(5)]
		default:
			text[i] = byte(32 + p.below(95))
			if p.below(2) > 0 {
				text[i] = byte(128 + p.below(128))
			}
		}
	}
	return string(text)
}

// key is any, of which many are those that take away.
func (p *picker) key() byte {
	switch p.below(4) {
	case 0:
		return "\x08\x7f\x15\x17"[p.below(4)]
	case 1:
		return byte(p.below(256))
	}
	return p.text(1)[0]
}

// Typings that keys lead to, and those spoiled.
func TestPickedTypings(t *testing.T) {
	p := picker(20)
	for range 1500 {
		base := p.text(p.below(30))
		n := note{"iR"[p.below(2)], p.below(len(base) + 1), 0, 1 + p.below([]int{2, 9, 9999}[p.below(3)]), ""}
		for range 40 {
			heldCheck(t, base, n)
			heldShow(t, base, n)
			heldFinish(t, base, n)
			if got := heldPress(t, base, n, p.key()); got.on {
				n = got.note
			}
		}
		n.start += p.below(5) - 2
		n.under += p.below(3) - 1
		heldAll(t, base, n)
	}
}

func TestGreatTexts(t *testing.T) {
	const size = 1 << 17
	for _, base := range []string{strings.Repeat("ab ", size), strings.Repeat("\n", size), strings.Repeat("ab\n", size)} {
		for _, typed := range []string{"x", strings.Repeat("xy\n", size), strings.Repeat("x", size), strings.Repeat(" ", size), strings.Repeat("\n", size), strings.Repeat("x.", size)} {
			for _, start := range []int{0, size, len(base)} {
				n := note{'R', start, wordCovers(base, start, typed), 9999, typed}
				m := in(start, typed).times(9999)
				for _, key := range []byte("x\x08\x15\x17") {
					heldPress(t, base, n, key)
					heldPress(t, base, m, key)
				}
				heldShow(t, base, n)
				heldFinish(t, base, n)
				heldFinish(t, base, m)
				heldCheck(t, base, n)
			}
		}
	}
}
