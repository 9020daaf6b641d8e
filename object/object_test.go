package object_test

import (
	"bytes"
	"math"
	"strings"
	"testing"

	"quoin/api"
	"quoin/object"
)

const (
	words    = "foo bar.baz"
	quotes   = `a "b c" d`
	brackets = "f(a(b)c)"
	pages    = "a\nb\n\nc"
)

// An answer is all that a call answers; so it can be held against tables.
type answer struct {
	target api.Target
	e      api.Errno
}

func choose(t []byte, at, count int, key string) answer {
	target, e := object.Select(t, at, count, key)
	return answer{target, e}
}

func exclusive(from, to int) answer {
	return answer{api.Target{From: from, To: to, Kind: api.Exclusive}, api.OK}
}

func linewise(from, to int) answer {
	return answer{api.Target{From: from, To: to, Kind: api.Linewise}, api.OK}
}

func refused(e api.Errno) answer { return answer{e: e} }

// A try is one call and what it must answer.
type try struct {
	text      string
	at, count int
	key       string
	answer    answer
}

func holdAll(t *testing.T, list []try) {
	t.Helper()
	for _, c := range list {
		if a := choose([]byte(c.text), c.at, c.count, c.key); a != c.answer {
			t.Errorf("Select(%.99q, %d, %d, %q) = %v; want %v", c.text, c.at, c.count, c.key, a, c.answer)
		}
	}
}

func TestExamples(t *testing.T) {
	none := refused(api.ErrObject)
	holdAll(t, []try{
		{words, 5, 1, "iw", exclusive(4, 7)}, {words, 5, 2, "iw", exclusive(4, 8)}, {words, 5, 1, "aw", exclusive(3, 7)},
		{words, 5, 1, "iW", exclusive(4, 11)}, {words, 5, 1, "aW", exclusive(3, 11)}, {words, 5, 2, "iW", none},
		{words, 0, 1, "aw", exclusive(0, 4)}, {words, 0, 2, "aw", exclusive(0, 7)},
		{words, 3, 1, "iw", exclusive(3, 4)}, {words, 3, 1, "aw", exclusive(3, 7)}, {words, 3, 2, "aw", exclusive(3, 8)},
		{quotes, 0, 1, `i"`, exclusive(3, 6)}, {quotes, 0, 1, `a"`, exclusive(2, 8)},
		{`a "b \" c"`, 4, 1, `i"`, exclusive(3, 9)},
		{brackets, 5, 1, "i(", exclusive(4, 5)}, {brackets, 5, 1, "a(", exclusive(3, 6)}, {brackets, 5, 2, "i(", exclusive(2, 7)},
		{brackets, 0, 1, "ib", none},
		{pages, 0, 1, "ip", linewise(0, 2)}, {pages, 0, 1, "ap", linewise(0, 4)},
		{pages, 5, 1, "ap", linewise(4, 5)},
	})
}

// holdCounts: what a key chooses from one place, count by count, till it is refused: pairs of From and To.
func holdCounts(t *testing.T, text string, at int, key string, places ...int) {
	t.Helper()
	var list []try
	count := 1
	for ; len(places) > 0; places = places[2:] {
		want := exclusive(places[0], places[1])
		if strings.HasSuffix(key, "p") {
			want = linewise(places[0], places[1])
		}
		list = append(list, try{text, at, count, key, want})
		count++
	}
	list = append(list, try{text, at, count, key, refused(api.ErrObject)}, try{text, at, api.MaxCount, key, refused(api.ErrObject)})
	holdAll(t, list)
}

func TestInnerWordsByHand(t *testing.T) {
	holdCounts(t, words, 0, "iw", 0, 3, 0, 4, 0, 7, 0, 8, 0, 11)
	holdCounts(t, words, 2, "iw", 0, 3, 0, 4, 0, 7, 0, 8, 0, 11)
	holdCounts(t, words, 3, "iw", 3, 4, 3, 7, 3, 8, 3, 11)
	holdCounts(t, words, 7, "iw", 7, 8, 7, 11)
	holdCounts(t, words, 10, "iw", 8, 11)
	holdCounts(t, words, 0, "iW", 0, 3, 0, 4, 0, 11)
	holdCounts(t, words, 7, "iW", 4, 11)
	// At the end of a line, with bytes or without, it stands in no run.
	holdCounts(t, words, 11, "iw")
	holdCounts(t, "", 0, "iw")
	holdCounts(t, "a\n\nb", 1, "iw")
	holdCounts(t, "a\n\nb", 2, "iw")
	holdCounts(t, "a\n", 2, "iw")
	// Runs don't reach into other lines.
	holdCounts(t, "ab\ncd \tef\ngh", 4, "iw", 3, 5, 3, 7, 3, 9)
	holdCounts(t, "ab\ncd \tef\ngh", 6, "iw", 5, 7, 5, 9)
	holdCounts(t, " \n \n ", 2, "iw", 2, 3)
	// A byte of 128 and more is of a word, the carriage return and the nought are not.
	holdCounts(t, "a\xff_9\r\x00b", 1, "iw", 0, 4, 0, 6, 0, 7)
	holdCounts(t, "a\xff_9\r\x00b", 1, "iW", 0, 7)
}

func TestWholeWordsByHand(t *testing.T) {
	holdCounts(t, words, 0, "aw", 0, 4, 0, 7, 0, 8, 0, 11)
	holdCounts(t, words, 6, "aw", 3, 7, 3, 8, 3, 11)
	holdCounts(t, words, 7, "aw", 7, 8, 7, 11)
	holdCounts(t, words, 3, "aw", 3, 7, 3, 8, 3, 11)
	holdCounts(t, words, 3, "aW", 3, 11)
	holdCounts(t, words, 0, "aW", 0, 4, 0, 11)
	holdCounts(t, words, 11, "aw")
	holdCounts(t, "", 0, "aw")
	// A gap of many blanks is one; the gap ahead is taken only where the last thing has none behind it.
	holdCounts(t, "\t a \t b", 2, "aw", 2, 6, 0, 7)
	holdCounts(t, "\t a \t b", 0, "aw", 0, 3, 0, 7)
	holdCounts(t, "\t a \t b", 4, "aw", 3, 7)
	holdCounts(t, " a.b c", 1, "aw", 0, 2, 0, 3, 1, 5, 0, 6)
	// Having begun with a gap, the gap behind a thing is left, and so the last one is never reached.
	holdCounts(t, " a b ", 0, "aw", 0, 2, 0, 4)
	holdCounts(t, " a.b ", 0, "aw", 0, 2, 0, 3, 0, 4)
	holdCounts(t, " a b ", 1, "aw", 1, 3, 1, 5)
	holdCounts(t, "a ", 0, "aw", 0, 2)
	holdCounts(t, "a ", 1, "aw")
	holdCounts(t, "  ", 0, "aw")
	// A gap in the line ahead or behind is none of this line.
	holdCounts(t, "a \nb\n c", 3, "aw", 3, 4)
	holdCounts(t, " \nb\n c", 2, "aW", 2, 3)
	holdCounts(t, " \nb\n c", 0, "aw")
	holdCounts(t, "x\n b", 2, "aw", 2, 4)
}

func TestParagraphsByHand(t *testing.T) {
	// A line of blanks isn't empty.
	const text = "a\nb\n\n\n \nc\n\nd"
	for _, at := range []int{0, 1, 2, 3} {
		holdCounts(t, text, at, "ip", 0, 2, 0, 5, 0, 8, 0, 10, 0, 11)
		holdCounts(t, text, at, "ap", 0, 5, 0, 10, 0, 11)
	}
	for _, at := range []int{4, 5} {
		holdCounts(t, text, at, "ip", 4, 5, 4, 8, 4, 10, 4, 11)
		holdCounts(t, text, at, "ap", 4, 8, 4, 11)
	}
	for _, at := range []int{6, 7, 8, 9} {
		holdCounts(t, text, at, "ip", 6, 8, 6, 10, 6, 11)
		holdCounts(t, text, at, "ap", 6, 10, 4, 11)
	}
	holdCounts(t, text, 10, "ip", 10, 10, 10, 11)
	holdCounts(t, text, 10, "ap", 10, 11)
	for _, at := range []int{11, 12} {
		holdCounts(t, text, at, "ip", 11, 11)
		holdCounts(t, text, at, "ap", 10, 11)
	}
	holdCounts(t, "", 0, "ip", 0, 0)
	holdCounts(t, "", 0, "ap")
	holdCounts(t, "a", 1, "ip", 0, 0)
	holdCounts(t, "a", 1, "ap", 0, 0)
	// The empty line behind the text's last line end is a line.
	holdCounts(t, "a\n", 0, "ap", 0, 2)
	holdCounts(t, "a\n", 2, "ip", 2, 2)
	holdCounts(t, "a\n", 2, "ap")
	holdCounts(t, "\na", 1, "ap", 0, 1)
	holdCounts(t, "\na\n", 0, "ap", 0, 1)
	holdCounts(t, "\na\n", 1, "ap", 1, 3)
	holdCounts(t, "\n\n", 1, "ip", 0, 2)
	holdCounts(t, "\n\n", 1, "ap")
}

func TestQuotesByHand(t *testing.T) {
	none := refused(api.ErrObject)
	// The last quote is left over; between the pairs the next one is meant.
	const text = "ab \"c\" d \"\" \"e\n\"f\""
	var list []try
	for at := 0; at <= 5; at++ {
		list = append(list, try{text, at, 1, `i"`, exclusive(4, 5)}, try{text, at, 1, `a"`, exclusive(3, 7)})
	}
	for at := 6; at <= 10; at++ {
		list = append(list, try{text, at, 1, `i"`, exclusive(10, 10)}, try{text, at, 1, `a"`, exclusive(9, 12)})
	}
	for at := 11; at <= 14; at++ {
		list = append(list, try{text, at, 1, `i"`, none}, try{text, at, 1, `a"`, none})
	}
	for at := 15; at <= 17; at++ {
		list = append(list, try{text, at, 1, `i"`, exclusive(16, 17)}, try{text, at, 1, `a"`, exclusive(15, 18)})
	}
	list = append(list, try{text, 18, 1, `i"`, none}, try{text, 0, 1, "i'", none}, try{text, 0, 1, "a`", none})
	holdAll(t, list)
	holdAll(t, []try{
		// An odd number of \ makes a quote plain, an even one doesn't, and what stands between parts them.
		{`"a\"b"`, 0, 1, `i"`, exclusive(1, 5)}, {`"a\\"b"`, 0, 1, `i"`, exclusive(1, 4)}, {`"a\\\"b"`, 0, 1, `i"`, exclusive(1, 7)}, {`"\a"b"`, 0, 1, `i"`, exclusive(1, 3)}, {`\"a"b"`, 0, 1, `i"`, exclusive(4, 5)}, {`\\"a"`, 0, 1, `i"`, exclusive(3, 4)}, {`\"a"`, 0, 1, `i"`, none},
		{"\\\n\"a\"", 3, 1, `i"`, exclusive(3, 4)}, {`\""`, 0, 1, `i"`, none},
		// Other quotes are plain bytes.
		{`'"' "`, 0, 1, "i'", exclusive(1, 2)}, {`'"' "`, 0, 1, `i"`, exclusive(2, 4)}, {"`'`\"'`", 0, 1, "i`", exclusive(1, 2)}, {"`'`\"'`", 0, 1, "i'", exclusive(2, 4)},
		// Blanks behind, else ahead, and only in the line.
		{"x \t'a'y", 0, 1, "a'", exclusive(1, 6)}, {" 'a' \t", 0, 1, "a'", exclusive(1, 6)}, {" \n 'a'\n ", 3, 1, "a'", exclusive(2, 6)}, {" \n'a'\n ", 3, 1, "a'", exclusive(2, 5)}, {"'a'\t\n ", 0, 1, "a'", exclusive(0, 4)}, {"'a'  b", 0, 1, "a'", exclusive(0, 5)},
		{"'a' 'b'", 4, 1, "a'", exclusive(3, 7)}, {"''", 1, 1, "i'", exclusive(1, 1)}, {"''", 2, 1, "i'", none}, {"'", 0, 1, "i'", none}, {"", 0, 1, "i'", none},
		// The count isn't looked at, but must be one.
		{quotes, 0, 2, `i"`, exclusive(3, 6)}, {quotes, 0, 9999, `a"`, exclusive(2, 8)}, {quotes, 0, 0, `i"`, refused(api.ErrArg)}, {quotes, 0, 10000, `a"`, refused(api.ErrArg)}, {quotes, 8, 2, `i"`, none},
	})
}

func TestBracketsByHand(t *testing.T) {
	for _, key := range []string{"(", ")", "b"} {
		holdCounts(t, brackets, 0, "i"+key)
		holdCounts(t, brackets, 1, "i"+key, 2, 7)
		holdCounts(t, brackets, 3, "i"+key, 4, 5, 2, 7)
		holdCounts(t, brackets, 4, "a"+key, 3, 6, 1, 8)
		holdCounts(t, brackets, 5, "a"+key, 3, 6, 1, 8)
		holdCounts(t, brackets, 6, "a"+key, 1, 8)
		holdCounts(t, brackets, 7, "a"+key, 1, 8)
		holdCounts(t, brackets, 8, "a"+key)
	}
	// Other brackets count for nothing, also where they cross; the pair may reach over lines.
	const text = "{[(\n}]x)\n[]{"
	for _, key := range []string{"(", ")", "b"} {
		holdCounts(t, text, 4, "i"+key, 3, 7)
	}
	for _, key := range []string{"[", "]"} {
		holdCounts(t, text, 4, "i"+key, 2, 5)
		holdCounts(t, text, 9, "a"+key, 9, 11)
		holdCounts(t, text, 6, "a"+key)
	}
	for _, key := range []string{"{", "}", "B"} {
		holdCounts(t, text, 3, "a"+key, 0, 5)
		holdCounts(t, text, 11, "a"+key)
	}
	// One that stays open, and a closing one to which none is open.
	holdCounts(t, "((a)", 2, "i(", 2, 3)
	holdCounts(t, "((a)", 0, "i(")
	holdCounts(t, "(a))", 1, "i(", 1, 2)
	holdCounts(t, "(a))", 3, "i(")
	holdCounts(t, ")(a)", 0, "i(")
	holdCounts(t, ")(a)", 2, "i(", 2, 3)
	holdCounts(t, ")(", 1, "i(")
	holdCounts(t, "(()())", 1, "a(", 1, 3, 0, 6)
	holdCounts(t, "(()())", 4, "a(", 3, 5, 0, 6)
	// Neither quotes nor \ hide a bracket, and line ends beside one belong to the object.
	holdCounts(t, "(\")\")", 1, "i(", 1, 2)
	holdCounts(t, "(\\))", 1, "i(", 1, 2)
	holdCounts(t, "{\n}\n", 1, "iB", 1, 2)
	holdCounts(t, "()", 0, "ib", 1, 1)
	holdCounts(t, "", 0, "ib")
}

func TestWrongArguments(t *testing.T) {
	wrong := refused(api.ErrArg)
	for _, key := range append(keys(), "is", "w", "") {
		for _, at := range []int{-1, len(words) + 1, math.MinInt, math.MaxInt} {
			holdAll(t, []try{{words, at, 1, key, wrong}, {words, at, 0, key, wrong}})
		}
		for _, count := range []int{0, -1, 10000, math.MinInt, math.MaxInt} {
			// What is wrong is told ahead of an object that isn't there.
			holdAll(t, []try{{words, 5, count, key, wrong}, {words, len(words), count, key, wrong}, {"", 0, count, key, wrong}, {words, -1, count, key, wrong}})
		}
		holdAll(t, []try{{"", 1, 1, key, wrong}, {"", -1, 1, key, wrong}})
	}
}

// Each text of up to two bytes as a key: just the 28 are taken, and no longer text is.
func TestEveryKey(t *testing.T) {
	const text = "([{\"'`x`'\"}])"
	list := []string{"", "iww", "aww", "i ", " iw", "iw ", "iw\x00", "\x00iw", "wi", "ia", "ai", "2iw", "i\uff08", strings.Repeat("iw", 1000)}
	for a := range 256 {
		list = append(list, string([]byte{byte(a)}))
		for b := range 256 {
			list = append(list, string([]byte{byte(a), byte(b)}))
		}
	}
	taken := 0
	for _, key := range list {
		a := choose([]byte(text), 6, 1, key)
		if isKnown(key) {
			taken++
			if a.e != api.OK {
				t.Errorf("the key %q: %v", key, a)
			}
			continue
		}
		if a != refused(api.ErrArg) {
			t.Errorf("the key %q: %v", key, a)
		}
	}
	if taken != 28 {
		t.Errorf("%d keys were taken", taken)
	}
}

func upTo(n int) []int {
	var list []int
	for i := 1; i <= n; i++ {
		list = append(list, i)
	}
	return list
}

func counts(length int) []int { return append(upTo(length+2), -1, 0, 9999, 10000) }

func placesOf(length int) []int {
	list := []int{math.MinInt, math.MaxInt}
	for at := -1; at <= length+1; at++ {
		list = append(list, at)
	}
	return list
}

// heldToWords: P13.1, and P13.2 of places.
func heldToWords(t *testing.T, text []byte, keys []string, places, counts []int) {
	for _, key := range keys {
		for _, at := range places {
			for _, count := range counts {
				a := choose(text, at, count, key)
				if told := wordSelect(text, at, count, key); a != told {
					t.Fatalf("Select(%.99q, %d, %d, %q) = %v; want %v", text, at, count, key, a, told)
				}
				if a.e == api.OK && !isOfText(text, a.target, key) {
					t.Fatalf("Select(%.99q, %d, %d, %q) = %v", text, at, count, key, a)
				}
			}
		}
	}
}

func isOfText(text []byte, target api.Target, key string) bool {
	if target.From < 0 || target.From > target.To || target.To > len(text) {
		return false
	}
	return key[1] != 'p' || isStart(text, target.From) && isStart(text, target.To)
}

func isStart(text []byte, at int) bool { return at == 0 || text[at-1] == '\n' }

func holds(great, small api.Target) bool {
	return great.From <= small.From && small.To <= great.To
}

// innerInWhole: P13.2 of i and a. It answers how often both were there.
func innerInWhole(t *testing.T, text []byte, sorts string, places, counts []int) int {
	held := 0
	for i := range len(sorts) {
		sort := sorts[i : i+1]
		for _, at := range places {
			for _, count := range counts {
				inner, whole := choose(text, at, count, "i"+sort), choose(text, at, count, "a"+sort)
				if inner.e != api.OK || whole.e != api.OK {
					continue
				}
				held++
				if !holds(whole.target, inner.target) {
					t.Fatalf("%.99q at %d, count %d: i%s chooses %v, a%s %v", text, at, count, sort, inner, sort, whole)
				}
			}
		}
	}
	return held
}

// eachInNext: P13.3. It answers how often a count and the next one both had their object.
func eachInNext(t *testing.T, text []byte, places []int, most int) int {
	held := 0
	for _, key := range keysOf("()b[]{}B") {
		for _, at := range places {
			for n := 1; n <= most; n++ {
				one, next := choose(text, at, n, key), choose(text, at, n+1, key)
				if next.e != api.OK {
					continue
				}
				held++
				if one.e != api.OK || !holds(next.target, one.target) {
					t.Fatalf("%.99q at %d: %q chooses %v with the count %d, and %v with the next", text, at, key, one, n, next)
				}
			}
		}
	}
	return held
}

func heldWhole(t *testing.T, text []byte) {
	places, counts := placesOf(len(text)), counts(len(text))
	heldToWords(t, text, append(keys(), "is", "w", ""), places, counts)
	innerInWhole(t, text, "p\"'`()b[]{}B", places, counts)
	eachInNext(t, text, places, len(text)/2+1)
}

// eachText calls do with every text of these bytes up to this length.
func eachText(alphabet string, length int, do func(text []byte)) {
	text := make([]byte, 0, length)
	var grow func()
	grow = func() {
		do(text)
		if len(text) == length {
			return
		}
		for i := 0; i < len(alphabet); i++ {
			text = append(text, alphabet[i])
			grow()
			text = text[:len(text)-1]
		}
	}
	grow()
}

func TestEveryShortText(t *testing.T) {
	eachText("a \n(", 4, func(text []byte) { heldWhole(t, text) })
	eachText("\"\\ )(", 4, func(text []byte) { heldWhole(t, text) })
	eachText("'`[]{}\n", 3, func(text []byte) { heldWhole(t, text) })
}

func TestEveryShortTextOfWords(t *testing.T) {
	keys := keysOf("wW")
	hold := func(text []byte) { heldToWords(t, text, keys, placesOf(len(text)), counts(len(text))) }
	eachText("a. ", 7, hold)
	eachText("a.\t\n", 5, hold)
	eachText("a ", 9, hold)
}

func TestEveryShortTextOfLines(t *testing.T) {
	held := 0
	hold := func(text []byte) {
		places, counts := placesOf(len(text)), counts(len(text)+1)
		heldToWords(t, text, keysOf("p"), places, counts)
		held += innerInWhole(t, text, "p", places, counts)
	}
	eachText("a\n", 9, hold)
	eachText("a \n", 6, hold)
	if held < 10000 {
		t.Errorf("only %d objects were held to lie in others", held)
	}
}

func TestEveryShortTextOfQuotes(t *testing.T) {
	held := 0
	hold := func(text []byte) {
		places := placesOf(len(text))
		heldToWords(t, text, keysOf(`"`), places, []int{1, 2, 9999})
		held += innerInWhole(t, text, `"`, places, []int{1})
	}
	eachText("\"\\ ", 8, hold)
	eachText("\"\\ \nx", 6, hold)
	eachText("\"\\\t'", 6, hold)
	if held < 10000 {
		t.Errorf("only %d objects were held to lie in others", held)
	}
}

func TestEveryShortTextOfBrackets(t *testing.T) {
	inside, nested := 0, 0
	hold := func(text []byte) {
		places := placesOf(len(text))
		heldToWords(t, text, keysOf("(]B"), places, upTo(4))
		inside += innerInWhole(t, text, "bB", places, upTo(4))
		nested += eachInNext(t, text, places, 3)
	}
	eachText("()", 9, hold)
	eachText("()x", 6, hold)
	eachText("[]{}", 5, hold)
	eachText("(){}\n", 4, hold)
	if inside < 3000 || nested < 3000 {
		t.Errorf("only %d objects were held to lie in others, and %d in those of the next count", inside, nested)
	}
}

// Each byte where the chapter names some: as a run of its own, between words, in a line, as a quote, ahead of one, and between brackets.
func TestEveryByte(t *testing.T) {
	for b := range 256 {
		one := string([]byte{byte(b)})
		for _, text := range []string{one, "a" + one + "b", "." + one + " c", "a\n" + one + "\nb", one + "a" + one, "\"" + one + "\"" + one, "(" + one + ")", "[" + one + "]", "{" + one + "}"} {
			heldToWords(t, []byte(text), keys(), placesOf(len(text)), []int{1, 2, 3})
		}
	}
}

// A picker is a plain row of numbers, the same in every run.
type picker uint64

func (p *picker) below(n int) int {
	*p = *p*6364136223846793005 + 1442695040888963407
	return int(uint64(*p)>>33) % n
}

func (p *picker) text(length int) []byte {
	text := make([]byte, length)
	for i := range text {
		switch p.below(10) {
		case 0, 1:
			text[i] = '\n'
		case 2, 3:
			text[i] = " \t"[p.below(2)]
		case 4, 5:
			text[i] = "\"'`\\"[p.below(4)]
		case 6, 7:
			text[i] = "()[]{}"[p.below(6)]
		case 8:
			text[i] = "ab_.,;"[p.below(6)]
		default:
			text[i] = byte(p.below(256))
		}
	}
	return text
}

// nested is brackets that all have their partners among their sort, with other bytes between.
func (p *picker) nested(length int) []byte {
	var text, awaited []byte
	for len(text)+len(awaited) < length {
		switch p.below(5) {
		case 0, 1:
			k := 2 * p.below(3)
			text, awaited = append(text, "()[]{}"[k]), append(awaited, "()[]{}"[k+1])
		case 2, 3:
			if k := len(awaited); k > 0 {
				// Any one that is open, so that sorts cross.
				k = p.below(k)
				text, awaited = append(text, awaited[k]), append(awaited[:k], awaited[k+1:]...)
			}
		default:
			text = append(text, ". \nx"[p.below(4)])
		}
	}
	return append(text, awaited...)
}

func TestPickedTexts(t *testing.T) {
	p := picker(13)
	nested := 0
	for range 40 {
		heldWhole(t, p.text(p.below(30)))
		text := p.nested(p.below(80))
		heldToWords(t, text, keysOf("b[B"), placesOf(len(text)), upTo(8))
		innerInWhole(t, text, "b[B", placesOf(len(text)), upTo(8))
		nested += eachInNext(t, text, placesOf(len(text)), 8)
	}
	if nested < 1000 {
		t.Errorf("only %d objects were held to lie in those of the next count", nested)
	}
}

// The greatest count is taken, and chooses just so many.
func TestGreatestCount(t *testing.T) {
	const most = api.MaxCount
	none, wrong := refused(api.ErrObject), refused(api.ErrArg)
	line := strings.Repeat("a ", most)
	page := strings.Repeat("a\n\n", most)
	deep := strings.Repeat("(", most) + strings.Repeat(")", most)
	holdAll(t, []try{
		{line, 0, most - 1, "iw", exclusive(0, most-1)}, {line, 0, most, "iw", exclusive(0, most)}, {line, most - 1, most, "iw", exclusive(most-1, 2*most-1)}, {line, most, most, "iw", exclusive(most, 2*most)}, {line, most + 1, most, "iw", none}, {line, 0, most + 1, "iw", wrong},
		{line, 0, most - 1, "aw", exclusive(0, 2*most-2)}, {line, 0, most, "aw", exclusive(0, 2*most)}, {line, 2, most, "aw", none}, {line, 2, most - 1, "aw", exclusive(2, 2*most)}, {line, 1, most, "aw", none}, {line, 1, most - 1, "aw", exclusive(1, 2*most-1)}, {line, 0, most + 1, "aw", wrong},
		{" " + line, 0, most, "aw", exclusive(0, 2*most)}, {" " + line[:2*most-1], 1, most, "aW", exclusive(0, 2*most)},
		{page, 0, most, "ip", linewise(0, 3*(most/2))}, {page, 0, most, "ap", linewise(0, 3*most)}, {page, 0, most - 1, "ap", linewise(0, 3*most-4)}, {page, 3, most, "ap", none}, {page, 2, most, "ap", none}, {page, 2, most - 1, "ap", linewise(2, 3*most-3)}, {"\n" + page, 0, most, "ap", linewise(0, 3*most-2)},
		{deep, most - 1, most, "i(", exclusive(1, 2*most-1)}, {deep, most, most - 1, "a(", exclusive(1, 2*most-1)}, {deep, most - 2, most, "a(", none}, {deep, most, most, "a(", exclusive(0, 2*most)}, {deep, most, most + 1, "a(", wrong},
		{"(" + deep + ")", most, most, "a(", exclusive(1, 2*most+1)},
	})
}

// A text may be longer than what a machine holds: object has no limit of its own but that of the count.
func TestGreatTexts(t *testing.T) {
	p := picker(3)
	size := api.MaxText + 100
	places := []int{0, 9999, api.MaxText, size - 1, size, size + 1}
	few := []int{1, 2, 9998, 9999, 10000}
	for _, text := range [][]byte{
		p.text(size), bytes.Repeat([]byte("\n"), size), bytes.Repeat([]byte(" "), size), bytes.Repeat([]byte("a"), size),
		bytes.Repeat([]byte(". "), size/2), bytes.Repeat([]byte("a\n\n"), size/3), bytes.Repeat([]byte("a."), size/2),
	} {
		heldToWords(t, text, keysOf("wWp"), places, few)
	}
	for _, text := range [][]byte{
		p.text(size), bytes.Repeat([]byte(`"`), size), bytes.Repeat([]byte(`\`), size), bytes.Repeat([]byte(`\" `), size/3), bytes.Repeat([]byte(`"\\" `), size/5),
		[]byte(`"` + strings.Repeat(`\`, size-2) + `"`), []byte(`"` + strings.Repeat(`\`, size-3) + `"`), []byte(`""` + strings.Repeat(" ", size-2)),
	} {
		heldToWords(t, text, keysOf("\"'"), places, []int{1})
	}
}

// Brackets may lie as deep in one another as a text is long.
func TestDeepBrackets(t *testing.T) {
	const deep = 1 << 16
	none := refused(api.ErrObject)
	text := strings.Repeat("([", deep/2) + strings.Repeat("])", deep/2)
	last := len(text) - 1
	holdAll(t, []try{
		{text, 0, 1, "a(", exclusive(0, last+1)}, {text, last, 1, "i(", exclusive(1, last)}, {text, deep, 1, "a[", exclusive(deep-1, deep+1)}, {text, deep, 2, "a(", exclusive(deep-4, deep+4)},
		{text, 0, 1, "a[", none}, {text[:last], 0, 1, "a(", none}, {text[1:], last - 1, 1, "a(", none}, {strings.Repeat("(", deep), deep / 2, 1, "i(", none}, {strings.Repeat(")", deep), deep / 2, 1, "i(", none},
	})
	flat := "(" + strings.Repeat("()", deep) + ")"
	holdAll(t, []try{{flat, deep, 2, "a(", exclusive(0, len(flat))}, {flat, 0, 1, "i)", exclusive(1, len(flat)-1)}, {flat, deep, 3, "ib", none}})
}

func TestNilIsTheEmptyText(t *testing.T) {
	heldWhole(t, nil)
	heldWhole(t, []byte{})
}

func TestTextIsLeftAlone(t *testing.T) {
	for _, text := range []string{"", "a", "a ", " ", "\n", "a\n", "(", "(\"", "'x", "[{", words, quotes, brackets, pages} {
		// What stands in the spare room must not be taken for the text's.
		whole := append([]byte(text), " b)]}\"'` \n\nspare"...)
		before := bytes.Clone(whole)
		heldWhole(t, whole[:len(text)])
		if !bytes.Equal(whole, before) {
			t.Errorf("%q: the text or its spare room is now %q", text, whole)
		}
	}
}

// What one call was asked leaves nothing to the next.
func TestNothingIsKept(t *testing.T) {
	for _, key := range keys() {
		first := choose([]byte(brackets), 5, 1, key)
		for _, other := range keys() {
			choose([]byte("([{x}]) \"y\" 'z' `w`\n\n"), 3, 1, other)
			choose(nil, 7, 0, other)
			if again := choose([]byte(brackets), 5, 1, key); again != first {
				t.Errorf("%q behind %q: %v, and then %v", key, other, first, again)
			}
		}
	}
}
