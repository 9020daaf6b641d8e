package lines_test

import (
	"bytes"
	"math"
	"slices"
	"testing"

	"quoin/api"
	"quoin/lines"
)

const example = "ab\n\n  c"

// An answer is a number and whether the call was refused; so the calls can be held against tables.
type answer struct {
	n int
	e api.Errno
}

func got(n int, e api.Errno) answer { return answer{n, e} }
func right(n int) answer            { return answer{n, api.OK} }
func refused() answer               { return answer{0, api.ErrArg} }

// A call is one of those that take a text and a line or a place.
type call struct {
	name       string
	made, told func(t []byte, n int) (int, api.Errno)
}

func calls() []call {
	return []call{
		{"Start", lines.Start, wordStart},
		{"End", lines.End, wordEnd},
		{"Of", lines.Of, wordOf},
		{"Column", lines.Column, wordColumn},
		{"First", lines.First, wordFirst},
	}
}

func callNamed(name string) call {
	list := calls()
	return list[slices.IndexFunc(list, func(c call) bool { return c.name == name })]
}

func TestExamples(t *testing.T) {
	text := []byte(example)
	for _, c := range []struct {
		name string
		n    int
		want answer
	}{
		{"Start", 0, right(0)}, {"Start", 1, right(3)}, {"Start", 2, right(4)}, {"Start", 3, refused()}, {"Start", -1, refused()},
		{"End", 0, right(2)}, {"End", 1, right(3)}, {"End", 2, right(7)}, {"End", 3, refused()}, {"End", -1, refused()},
		{"Of", 0, right(0)}, {"Of", 2, right(0)}, {"Of", 3, right(1)}, {"Of", 4, right(2)}, {"Of", 7, right(2)}, {"Of", 8, refused()}, {"Of", -1, refused()},
		{"Column", 0, right(0)}, {"Column", 2, right(2)}, {"Column", 3, right(0)}, {"Column", 4, right(0)}, {"Column", 7, right(3)}, {"Column", 8, refused()}, {"Column", -1, refused()},
		{"First", 0, right(0)}, {"First", 1, right(3)}, {"First", 2, right(6)}, {"First", 3, refused()}, {"First", -1, refused()},
	} {
		if a := got(callNamed(c.name).made(text, c.n)); a != c.want {
			t.Errorf("%s(%d) = %v; want %v", c.name, c.n, a, c.want)
		}
	}
	if n := lines.Count(text); n != 3 {
		t.Errorf("Count = %d", n)
	}
}

func TestAtByHand(t *testing.T) {
	for _, c := range []struct {
		text         string
		line, column int
		want         answer
	}{
		{example, 0, 0, right(0)}, {example, 0, 1, right(1)}, {example, 0, 2, right(1)}, {example, 0, 9, right(1)}, {example, 0, -1, right(1)},
		{example, 1, 0, right(3)}, {example, 1, 5, right(3)}, {example, 1, -1, right(3)},
		{example, 2, 0, right(4)}, {example, 2, 2, right(6)}, {example, 2, 3, right(6)}, {example, 2, math.MaxInt, right(6)},
		{example, 0, -2, refused()}, {example, 3, -2, refused()}, {example, 3, 0, refused()}, {example, -1, 0, refused()},
		{example, 2, math.MinInt, refused()}, {example, math.MaxInt, math.MaxInt, refused()}, {example, math.MinInt, 0, refused()},
		{"", 0, 0, right(0)}, {"", 0, -1, right(0)}, {"", 0, 7, right(0)}, {"", 1, 0, refused()},
		{"\n", 0, -1, right(0)}, {"\n", 1, -1, right(1)}, {"\n", 1, 3, right(1)}, {"a\n", 1, 0, right(2)}, {"a\n", 2, 0, refused()},
	} {
		if a := got(lines.At([]byte(c.text), c.line, c.column)); a != c.want {
			t.Errorf("At(%q, %d, %d) = %v; want %v", c.text, c.line, c.column, a, c.want)
		}
	}
}

func TestRestByHand(t *testing.T) {
	for _, c := range []struct {
		text     string
		at, want int
	}{
		{example, 0, 0}, {example, 1, 1}, {example, 2, 1}, {example, 3, 3}, {example, 4, 4}, {example, 6, 6}, {example, 7, 6},
		{example, 8, 6}, {example, 99, 6}, {example, math.MaxInt, 6}, {example, -1, 0}, {example, -5, 0}, {example, math.MinInt, 0},
		{"", 0, 0}, {"", 1, 0}, {"", -1, 0}, {"", math.MaxInt, 0}, {"", math.MinInt, 0},
		{"\n", 0, 0}, {"\n", 1, 1}, {"\n", 2, 1}, {"a\n", 1, 0}, {"a\n", 2, 2}, {"a\n", 9, 2}, {"\na", -9, 0}, {"\na", 9, 1},
	} {
		if at := lines.Rest([]byte(c.text), c.at); at != c.want {
			t.Errorf("Rest(%q, %d) = %d; want %d", c.text, c.at, at, c.want)
		}
	}
}

// What is blank are the bytes 32 and 9 and no others, such as 11, 13, 160 or 0.
func TestFirstByHand(t *testing.T) {
	for _, c := range []struct {
		text string
		line int
		want answer
	}{
		{"", 0, right(0)}, {"", 1, refused()}, {"", math.MinInt, refused()}, {"", math.MaxInt, refused()},
		{" ", 0, right(0)}, {"\t", 0, right(0)}, {" \t ", 0, right(2)}, {" \t x ", 0, right(3)}, {"x y", 0, right(0)},
		{"\t\r", 0, right(1)}, {" \v ", 0, right(1)}, {"\f ", 0, right(0)}, {" \x00 ", 0, right(1)}, {" \xa0 ", 0, right(1)}, {" \x85", 0, right(1)},
		{"  \nx", 0, right(1)}, {"  \nx", 1, right(3)}, {"\n\n  ", 1, right(1)}, {"\n\n  ", 2, right(3)}, {"x\n", 1, right(2)},
		{"  \n  \n  x", 2, right(8)}, {"  \n  \n  x", 3, refused()}, {"x", -1, refused()},
	} {
		if a := got(lines.First([]byte(c.text), c.line)); a != c.want {
			t.Errorf("First(%q, %d) = %v; want %v", c.text, c.line, a, c.want)
		}
	}
}

func TestSplitByHand(t *testing.T) {
	for _, c := range []struct {
		text string
		want []string
	}{
		{"", []string{""}}, {"\n", []string{"", ""}}, {"\n\n", []string{"", "", ""}},
		{"a", []string{"a"}}, {"a\n", []string{"a", ""}}, {"\na", []string{"", "a"}}, {"a\nb", []string{"a", "b"}},
		{example, []string{"ab", "", "  c"}}, {"a\r\nb\x00\v", []string{"a\r", "b\x00\v"}}, {"\xff\n\x8a", []string{"\xff", "\x8a"}},
	} {
		var list []string
		for _, line := range lines.Split([]byte(c.text)) {
			list = append(list, string(line))
		}
		if !slices.Equal(list, c.want) {
			t.Errorf("Split(%q) = %q; want %q", c.text, list, c.want)
		}
		if n := lines.Count([]byte(c.text)); n != len(c.want) {
			t.Errorf("Count(%q) = %d; want %d", c.text, n, len(c.want))
		}
	}
}

// numbers are all that a text of this length could have as a line, a place or a column, some beyond, and both ends of the type.
func numbers(length int) []int {
	list := []int{math.MinInt, math.MinInt + 1, math.MinInt32, math.MaxInt32, 1 << 32, math.MaxInt - 1, math.MaxInt}
	for n := -3; n <= length+3; n++ {
		list = append(list, n)
	}
	return list
}

// heldToWords: P5.1.
func heldToWords(t *testing.T, text []byte, numbers []int) {
	t.Helper()
	if n, want := lines.Count(text), len(rowsOf(text)); n != want {
		t.Fatalf("Count(%q) = %d; want %d", text, n, want)
	}
	if list, want := lines.Split(text), wordSplit(text); !slices.EqualFunc(list, want, bytes.Equal) {
		t.Fatalf("Split(%q) = %q; want %q", text, list, want)
	}
	for _, n := range numbers {
		for _, c := range calls() {
			if a, want := got(c.made(text, n)), got(c.told(text, n)); a != want {
				t.Fatalf("%s(%q, %d) = %v; want %v", c.name, text, n, a, want)
			}
		}
		if at, want := lines.Rest(text, n), wordRest(text, n); at != want {
			t.Fatalf("Rest(%q, %d) = %d; want %d", text, n, at, want)
		}
		for _, column := range numbers {
			if a, want := got(lines.At(text, n, column)), got(wordAt(text, n, column)); a != want {
				t.Fatalf("At(%q, %d, %d) = %v; want %v", text, n, column, a, want)
			}
		}
	}
}

// must takes what a call answers that may not be refused.
func must(t *testing.T) func(n int, e api.Errno) int {
	return func(n int, e api.Errno) int {
		t.Helper()
		if e != api.OK {
			t.Fatalf("refused: %d", e)
		}
		return n
	}
}

// thereAndBack: P5.2.
func thereAndBack(t *testing.T, text []byte) {
	t.Helper()
	take := must(t)
	for at := 0; at <= len(text); at++ {
		line := take(lines.Of(text, at))
		column := take(lines.Column(text, at))
		start := take(lines.Start(text, line))
		end := take(lines.End(text, line))
		if start+column != at || at > end {
			t.Fatalf("%q: the place %d is column %d of line %d, from %d to %d", text, at, column, line, start, end)
		}
	}
}

// theWhole: P5.3.
func theWhole(t *testing.T, text []byte) {
	t.Helper()
	take := must(t)
	list := lines.Split(text)
	if joined := bytes.Join(list, []byte("\n")); !bytes.Equal(joined, text) {
		t.Fatalf("Split(%q) put together is %q", text, joined)
	}
	if len(list) != lines.Count(text) {
		t.Fatalf("Split(%q): %d lists, Count %d", text, len(list), lines.Count(text))
	}
	for i, line := range list {
		start := take(lines.Start(text, i))
		end := take(lines.End(text, i))
		if !bytes.Equal(line, text[start:end]) {
			t.Fatalf("Split(%q)[%d] = %q; want %q", text, i, line, text[start:end])
		}
	}
}

// atRest: P5.4.
func atRest(t *testing.T, text []byte) {
	t.Helper()
	take := must(t)
	for at := -3; at <= len(text)+3; at++ {
		rest := lines.Rest(text, at)
		if again := lines.Rest(text, rest); again != rest {
			t.Fatalf("%q: Rest of %d is %d, and of that %d", text, at, rest, again)
		}
		if at < 0 || at > len(text) {
			continue
		}
		line := take(lines.Of(text, at))
		restLine := take(lines.Of(text, rest))
		column := take(lines.Column(text, at))
		place := take(lines.At(text, line, column))
		if restLine != line || rest > at || rest < at-1 || rest != place {
			t.Fatalf("%q: Rest of %d (line %d) is %d (line %d), At %d", text, at, line, rest, restLine, place)
		}
	}
}

func heldWhole(t *testing.T, text []byte, numbers []int) {
	t.Helper()
	heldToWords(t, text, numbers)
	thereAndBack(t, text)
	theWhole(t, text)
	atRest(t, text)
}

// eachText calls do with every text of these bytes up to this length.
func eachText(alphabet string, length int, do func(text []byte)) {
	text := make([]byte, 0, length)
	var grow func()
	grow = func() {
		do(text)
		if len(text) == length {
			return
		}
		for i := 0; i < len(alphabet); i++ {
			text = append(text, alphabet[i])
			grow()
			text = text[:len(text)-1]
		}
	}
	grow()
}

func TestEveryShortText(t *testing.T) {
	eachText("a \n", 6, func(text []byte) { heldWhole(t, text, numbers(len(text))) })
	eachText("x\t\n\r", 4, func(text []byte) { heldWhole(t, text, numbers(len(text))) })
}

// Each byte has its say as the only one, as a line's first and last one, and behind a blank.
func TestEveryByte(t *testing.T) {
	for b := range 256 {
		for _, text := range [][]byte{{byte(b)}, {byte(b), '\n', byte(b)}, {' ', byte(b), '\t'}, {'a', byte(b)}, {'\n', byte(b), byte(b), '\n'}} {
			heldWhole(t, text, numbers(len(text)))
		}
	}
}

// A picker is a plain row of numbers, the same in every run.
type picker uint64

func (p *picker) below(n int) int {
	*p = *p*6364136223846793005 + 1442695040888963407
	return int(uint64(*p)>>33) % n
}

func (p *picker) text(length int) []byte {
	text := make([]byte, length)
	for i := range text {
		switch p.below(8) {
		case 0:
			text[i] = '\n'
		case 1, 2:
			text[i] = " \t"[p.below(2)]
		default:
			text[i] = byte(p.below(256))
		}
	}
	return text
}

func TestPickedTexts(t *testing.T) {
	p := picker(5)
	for range 120 {
		text := p.text(p.below(60))
		heldWhole(t, text, numbers(len(text)))
	}
}

// A text may be longer than what a machine holds: lines has no limit of its own.
func TestGreatTexts(t *testing.T) {
	p := picker(9)
	size := api.MaxText + 100
	few := []int{-1, 0, 1, 2, 70, 1000, api.MaxText - 1, api.MaxText, api.MaxText + 1, size - 1, size, size + 1, size + 2, math.MaxInt, math.MinInt}
	heldToWords(t, p.text(size), few)
	heldToWords(t, bytes.Repeat([]byte("\n"), size), few)
	heldToWords(t, bytes.Repeat([]byte(" "), size), few)
	heldToWords(t, bytes.Repeat([]byte("ab\n"), size/3), few)
	theWhole(t, bytes.Repeat([]byte("\n"), 300))
	thereAndBack(t, bytes.Repeat([]byte("ab\n"), 300))
	atRest(t, bytes.Repeat([]byte("ab\n\n"), 300))
}

func TestNilIsTheEmptyText(t *testing.T) {
	heldWhole(t, nil, numbers(0))
	heldWhole(t, []byte{}, numbers(0))
}

// withRoom is a text with spare room behind it that is filled, so that a write into it is seen.
func withRoom(text string) (whole, part []byte) {
	whole = append([]byte(text), "\nspare\n"...)
	return whole, whole[:len(text)]
}

func TestTextIsLeftAlone(t *testing.T) {
	for _, text := range []string{"", "a", "\n", example, "a\nb\n"} {
		whole, part := withRoom(text)
		before := bytes.Clone(whole)
		heldWhole(t, part, numbers(len(part)))
		for _, line := range lines.Split(part) {
			for i := range line {
				line[i] = '#'
			}
			_ = append(line, "#####"...)
		}
		if !bytes.Equal(whole, before) {
			t.Errorf("%q: the text or its spare room is now %q", text, whole)
		}
	}
}

// The lists of Split are memory of their own, up to the end of their room.
func TestSplitSharesNothing(t *testing.T) {
	text := []byte(example + "\nlast\n")
	list := lines.Split(text)
	other := lines.Split(text)
	for i := range list {
		list[i] = append(list[i], "++++++++"...)
		room := list[i][:cap(list[i])]
		for k := range room {
			room[k] = byte('0' + i)
		}
	}
	for i, line := range list {
		if bytes.ContainsFunc(line, func(r rune) bool { return r != rune('0'+i) }) {
			t.Errorf("line %d is %q: it shares with another", i, line)
		}
	}
	if string(text) != example+"\nlast\n" || !slices.EqualFunc(other, wordSplit(text), bytes.Equal) {
		t.Errorf("the text %q or another answer %q is changed", text, other)
	}
	for i := range other {
		room := other[i][:cap(other[i])]
		for k := range room {
			room[k] = byte('a' + i)
		}
	}
	for i, line := range other {
		if bytes.ContainsFunc(line, func(r rune) bool { return r != rune('a'+i) }) {
			t.Errorf("line %d is %q: its room is another's", i, line)
		}
	}
	for i := range text {
		text[i] = '!'
	}
	if slices.ContainsFunc(other, func(line []byte) bool { return bytes.Contains(line, []byte("!")) }) {
		t.Error("a list shares with the text")
	}
}
