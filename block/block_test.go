package block_test

import (
	"bytes"
	"math"
	"slices"
	"strings"
	"testing"

	"quoin/api"
	"quoin/block"
)

const example = "a. b\n\n\n(c [d]) e."

// An answer is all that a call answers; so it can be held against tables.
type answer struct {
	target api.Target
	e      api.Errno
}

func move(t []byte, at, count int, key string) answer {
	target, e := block.Move(t, at, count, key)
	return answer{target, e}
}

func exclusive(from, to int) answer {
	return answer{api.Target{From: from, To: to, Kind: api.Exclusive}, api.OK}
}

func inclusive(from, to int) answer {
	return answer{api.Target{From: from, To: to, Kind: api.Inclusive}, api.OK}
}

func refused(e api.Errno) answer { return answer{e: e} }

// A try is one call and what it must answer.
type try struct {
	text      string
	at, count int
	key       string
	answer    answer
}

func holdMoves(t *testing.T, list []try) {
	t.Helper()
	for _, c := range list {
		if a := move([]byte(c.text), c.at, c.count, c.key); a != c.answer {
			t.Errorf("Move(%.99q, %d, %d, %q) = %v; want %v", c.text, c.at, c.count, c.key, a, c.answer)
		}
	}
}

func TestExamples(t *testing.T) {
	stops := refused(api.ErrMove)
	holdMoves(t, []try{
		{example, 0, 1, "}", exclusive(0, 5)}, {example, 5, 1, "}", exclusive(5, 17)}, {example, 17, 1, "}", stops},
		{example, 0, 2, "}", exclusive(0, 17)}, {example, 0, 3, "}", stops},
		{example, 16, 1, "{", exclusive(16, 6)}, {example, 6, 1, "{", exclusive(6, 0)}, {example, 0, 1, "{", stops},
		{example, 0, 1, ")", exclusive(0, 3)}, {example, 0, 2, ")", exclusive(0, 5)}, {example, 0, 3, ")", exclusive(0, 7)}, {example, 0, 4, ")", exclusive(0, 17)},
		{example, 7, 1, "(", exclusive(7, 5)}, {example, 7, 2, "(", exclusive(7, 3)},
		{example, 7, 1, "%", inclusive(7, 13)}, {example, 13, 1, "%", inclusive(13, 7)}, {example, 8, 1, "%", inclusive(8, 12)}, {example, 14, 1, "%", stops},
		{"([)]", 0, 1, "%", stops},
	})
}

// holdWalk: the places to which a key leads from one place, count by count, till it is refused.
func holdWalk(t *testing.T, text string, at int, key string, places ...int) {
	t.Helper()
	var list []try
	for i, to := range places {
		list = append(list, try{text, at, i + 1, key, exclusive(at, to)})
	}
	list = append(list, try{text, at, len(places) + 1, key, refused(api.ErrMove)}, try{text, at, api.MaxCount, key, refused(api.ErrMove)})
	holdMoves(t, list)
}

func TestParagraphsByHand(t *testing.T) {
	// A line of blanks isn't empty; the empty last line is where the text ends, and has no line behind it.
	const text = "a\n\n\n \nb\n\nc\n"
	holdWalk(t, text, 0, "}", 2, 8, 11)
	holdWalk(t, text, 2, "}", 8, 11)
	holdWalk(t, text, 3, "}", 8, 11)
	holdWalk(t, text, 7, "}", 8, 11)
	holdWalk(t, text, 8, "}", 11)
	holdWalk(t, text, 11, "}")
	holdWalk(t, text, 11, "{", 8, 3, 0)
	holdWalk(t, text, 8, "{", 3, 0)
	holdWalk(t, text, 4, "{", 3, 0)
	holdWalk(t, text, 3, "{", 0)
	holdWalk(t, text, 0, "{")
	// The first line has no line ahead of it, the last one none behind it.
	holdWalk(t, "\n\na", 0, "}", 3)
	holdWalk(t, "\n\na", 3, "{", 1, 0)
	holdWalk(t, "a\n\n", 0, "}", 2, 3)
	holdWalk(t, "a\n\n", 3, "{", 0)
	holdWalk(t, "\n\n\n", 0, "}", 3)
	holdWalk(t, "\n\n\n", 3, "{", 0)
	holdWalk(t, "", 0, "}")
	holdWalk(t, "", 0, "{")
	holdWalk(t, "a\rb\n\rc", 0, "}", 6)
}

func TestSentencesByHand(t *testing.T) {
	holdWalk(t, "One. Two! Three? Four", 0, ")", 5, 10, 17, 21)
	holdWalk(t, "One. Two! Three? Four", 21, "(", 17, 10, 5, 0)
	holdWalk(t, "One. Two! Three? Four", 7, "(", 5, 0)
	// What shuts may stand behind the mark, and only there; other marks end nothing.
	holdWalk(t, `a.)]"' b. ) c,) d.} e.> f`, 0, ")", 7, 10, 25)
	holdWalk(t, `a.)]"' b. ) c,) d.} e.> f`, 25, "(", 10, 7, 0)
	holdWalk(t, `)]"' b`, 0, ")", 6)
	holdWalk(t, `."x" y. z`, 0, ")", 8, 9)
	holdWalk(t, "a.) b ..) c .!? d e.)f g", 0, ")", 4, 10, 16, 24)
	// One blank or line end is enough, and any number of them too; a mark with none behind it ends no sentence.
	holdWalk(t, "1.5 a.\tb.\nc. \t\n d. ", 0, ")", 7, 10, 16, 19)
	holdWalk(t, "1.5 a.\tb.\nc. \t\n d. ", 19, "(", 16, 10, 7, 0)
	// A mark as the text's last byte, or alone.
	holdWalk(t, "a b.", 0, ")", 4)
	holdWalk(t, "a b.", 4, "(", 0)
	holdWalk(t, ". a", 0, ")", 2, 3)
	holdWalk(t, "! ? .", 0, ")", 2, 4, 5)
	// The first byte that is neither blank nor a line end is a stop, without any mark.
	holdWalk(t, " \t\n a b", 0, ")", 4, 7)
	holdWalk(t, " \t\n a b", 7, "(", 4, 0)
	holdWalk(t, "\n \n a b", 7, "(", 4, 0)
	holdWalk(t, " \n", 0, ")", 2)
	holdWalk(t, " \n", 2, "(", 0)
	// Empty lines are stops, the first of those that stand together, and so is what stands next behind them.
	holdWalk(t, "a\n\n\n b\nc", 0, ")", 2, 5, 8)
	holdWalk(t, "a\n\n\n b\nc", 8, "(", 5, 2, 0)
	holdWalk(t, "a\n\n \n\n b", 0, ")", 2, 5, 7, 8)
	holdWalk(t, "a\n\n \n\n b", 8, "(", 7, 5, 2, 0)
	holdWalk(t, "a\n\n \t\n b c", 0, ")", 2, 7, 10)
	// A line of blanks is none without bytes, so nothing begins behind it.
	holdWalk(t, "a\n \nb", 0, ")", 5)
	holdWalk(t, "a\n \nb", 5, "(", 0)
	holdWalk(t, "a\n\t\n\nb", 0, ")", 4, 5, 6)
	holdWalk(t, "\n\na.\n\n", 0, ")", 2, 5, 6)
	holdWalk(t, "\n\na.\n\n", 6, "(", 5, 2, 0)
	holdWalk(t, "a\n", 0, ")", 2)
	holdWalk(t, "", 0, ")")
	holdWalk(t, "", 0, "(")
}

func TestBracketsByHand(t *testing.T) {
	stops := refused(api.ErrMove)
	const text = "x{a[b\n](c)}y\n)("
	holdMoves(t, []try{
		{text, 0, 1, "%", inclusive(0, 10)}, {text, 1, 1, "%", inclusive(1, 10)}, {text, 10, 1, "%", inclusive(10, 1)},
		// The partner may stand in another line, but the bracket from which it goes may not.
		{text, 2, 1, "%", inclusive(2, 6)}, {text, 3, 1, "%", inclusive(3, 6)}, {text, 6, 1, "%", inclusive(6, 3)}, {text, 4, 1, "%", stops}, {text, 5, 1, "%", stops},
		{text, 8, 1, "%", inclusive(8, 7)}, {text, 9, 1, "%", inclusive(9, 7)}, {text, 11, 1, "%", stops}, {text, 12, 1, "%", stops},
		// Without a partner: to the left only what is closed already, to the right nothing.
		{text, 13, 1, "%", stops}, {text, 14, 1, "%", stops}, {text, 15, 1, "%", stops},
		// The count isn't looked at, but must be one.
		{text, 1, 2, "%", inclusive(1, 10)}, {text, 1, 9999, "%", inclusive(1, 10)}, {text, 1, 0, "%", refused(api.ErrArg)}, {text, 1, 10000, "%", refused(api.ErrArg)}, {text, 14, 2, "%", stops},
		{"(()())", 0, 1, "%", inclusive(0, 5)}, {"(()())", 1, 1, "%", inclusive(1, 2)}, {"(()())", 3, 1, "%", inclusive(3, 4)}, {"(()())", 5, 1, "%", inclusive(5, 0)}, {"(()())", 4, 1, "%", inclusive(4, 3)},
		{"(()", 0, 1, "%", stops}, {"(()", 1, 1, "%", inclusive(1, 2)}, {"())", 2, 1, "%", stops}, {"())", 1, 1, "%", inclusive(1, 0)},
		// Crossed: what closes must be the partner of the last one that is open, both ways.
		{"([)]", 1, 1, "%", stops}, {"([)]", 2, 1, "%", stops}, {"([)]", 3, 1, "%", stops}, {"(]", 0, 1, "%", stops}, {"(]", 1, 1, "%", stops}, {"{)}", 0, 1, "%", stops}, {"{)}", 2, 1, "%", stops}, {"{(}", 2, 1, "%", stops},
		// Other bytes are no brackets, nor are these in quotes anything else than brackets.
		{"<a>", 0, 1, "%", stops}, {"(\")\")", 0, 1, "%", inclusive(0, 2)}, {"/*(*/)", 0, 1, "%", inclusive(0, 5)}, {"(\\))", 0, 1, "%", inclusive(0, 2)},
		{"", 0, 1, "%", stops}, {"a", 0, 1, "%", stops}, {"()", 2, 1, "%", stops}, {"()\n", 2, 1, "%", stops}, {"\n()", 0, 1, "%", stops}, {"\n()", 1, 1, "%", inclusive(1, 2)},
	})
}

func TestWrongArguments(t *testing.T) {
	wrong := refused(api.ErrArg)
	for _, key := range append(keys(), "x", "") {
		for _, at := range []int{-1, len(example) + 1, math.MinInt, math.MaxInt} {
			holdMoves(t, []try{{example, at, 1, key, wrong}, {example, at, 0, key, wrong}})
		}
		for _, count := range []int{0, -1, 10000, math.MinInt, math.MaxInt} {
			// What is wrong is told ahead of a motion that fails.
			holdMoves(t, []try{{example, 7, count, key, wrong}, {"", 0, count, key, wrong}, {example, 0, count, key, wrong}, {example, len(example), count, key, wrong}, {example, -1, count, key, wrong}})
		}
		holdMoves(t, []try{{"", 1, 1, key, wrong}, {"", -1, 1, key, wrong}})
	}
}

// Each byte as a key: the five are taken, all others are refused, and so is each text of more bytes.
func TestEveryKey(t *testing.T) {
	list := []string{"", "{}", "()", "}}", "%%", "} ", " }", "\x00}", "}\x00", "g%", "w", "ge", "\uff5d", strings.Repeat("}", 1000)}
	for b := range 256 {
		list = append(list, string([]byte{byte(b)}))
	}
	taken := 0
	for _, key := range list {
		a := move([]byte(example), 7, 1, key)
		if slices.Contains(keys(), key) {
			taken++
			if a.e != api.OK {
				t.Errorf("the key %q: %v", key, a)
			}
			continue
		}
		if a != refused(api.ErrArg) {
			t.Errorf("the key %q: %v", key, a)
		}
	}
	if taken != len(keys()) {
		t.Errorf("%d keys were taken", taken)
	}
}

func upTo(n int) []int {
	var list []int
	for i := 1; i <= n; i++ {
		list = append(list, i)
	}
	return list
}

func counts(length int) []int {
	return append(upTo(length+2), math.MinInt, -1, 0, 9998, 9999, 10000, math.MaxInt)
}

func placesOf(length int) []int {
	list := []int{math.MinInt, math.MaxInt}
	for at := -2; at <= length+2; at++ {
		list = append(list, at)
	}
	return list
}

// heldToWords: P10.1, and P10.2 of which way a motion leads.
func heldToWords(t *testing.T, text []byte, keys []string, places, counts []int) {
	p := pageOf(text)
	for _, key := range keys {
		for _, at := range places {
			for _, count := range counts {
				a := move(text, at, count, key)
				if told := wordMove(p, at, count, key); a != told {
					t.Fatalf("Move(%.99q, %d, %d, %q) = %v; want %v", text, at, count, key, a, told)
				}
				if a.e == api.OK && !leadsOn(a.target, key) {
					t.Fatalf("Move(%.99q, %d, %d, %q) = %v", text, at, count, key, a)
				}
			}
		}
	}
}

func leadsOn(target api.Target, key string) bool {
	switch key {
	case "}", ")":
		return target.To > target.From
	case "{", "(":
		return target.To < target.From
	}
	return true
}

// stepByStep: P10.2 of counts. It answers how often one motion was held against many, where all of them lead on and where one is refused.
func stepByStep(t *testing.T, text []byte, places []int, most int) (led, failed int) {
	for _, key := range []string{"{", "}", "(", ")"} {
		for _, at := range places {
			want := move(text, at, 1, key)
			for n := 1; n <= most; n++ {
				if a := move(text, at, n, key); a != want {
					t.Fatalf("%.99q at %d: %d times %q leads to %v, with the count to %v", text, at, n, key, want, a)
				}
				if want.e != api.OK {
					failed++
					continue
				}
				led++
				want = move(text, want.target.To, 1, key)
				if want.e == api.OK {
					want.target.From = at
				}
			}
		}
	}
	return led, failed
}

// thereAndBack: P10.3. It answers how many ways back were held.
func thereAndBack(t *testing.T, text []byte) int {
	held := 0
	for at, b := range text {
		there := move(text, at, 1, "%")
		if bracket(b) == "" || there.e != api.OK {
			continue
		}
		held++
		if back := move(text, there.target.To, 1, "%"); back != inclusive(there.target.To, at) {
			t.Fatalf("%.99q: %% leads from %d to %d, and back to %v", text, at, there.target.To, back)
		}
	}
	return held
}

func heldWhole(t *testing.T, text []byte) {
	heldToWords(t, text, append(keys(), "x", ""), placesOf(len(text)), counts(len(text)))
	stepByStep(t, text, placesOf(len(text)), len(text)+2)
	thereAndBack(t, text)
}

// eachText calls do with every text of these bytes up to this length.
func eachText(alphabet string, length int, do func(text []byte)) {
	text := make([]byte, 0, length)
	var grow func()
	grow = func() {
		do(text)
		if len(text) == length {
			return
		}
		for i := 0; i < len(alphabet); i++ {
			text = append(text, alphabet[i])
			grow()
			text = text[:len(text)-1]
		}
	}
	grow()
}

func TestEveryShortText(t *testing.T) {
	eachText("a. \n", 6, func(text []byte) { heldWhole(t, text) })
	eachText("a\n", 9, func(text []byte) { heldWhole(t, text) })
	eachText("?') \nx", 5, func(text []byte) { heldWhole(t, text) })
	eachText("()[]{}\n", 4, func(text []byte) { heldWhole(t, text) })
	eachText("(]\t\n\r\xff!\"", 3, func(text []byte) { heldWhole(t, text) })
}

// Brackets lie deeper than a text goes that is held whole: so these are held for % alone.
func TestEveryShortTextOfBrackets(t *testing.T) {
	held := 0
	hold := func(text []byte) {
		heldToWords(t, text, []string{"%"}, placesOf(len(text)), []int{1})
		held += thereAndBack(t, text)
	}
	eachText("()[]", 7, hold)
	eachText("(){}", 5, hold)
	eachText("{}[]", 5, hold)
	eachText("()x\n", 7, hold)
	if held < 3000 {
		t.Errorf("only %d ways back were held", held)
	}
}

// Each byte at each place where the chapter names some: as a mark, behind one, as a gap, where a sentence begins, and between brackets.
func TestEveryByte(t *testing.T) {
	for b := range 256 {
		one := string([]byte{byte(b)})
		for _, text := range []string{one, "a" + one + " b", "a." + one + " b", "a." + one + "b", "a. " + one, "a\n" + one + "\nb", "\n" + one + "b", "(" + one + ")", "[" + one + "]", "{" + one + "}"} {
			heldWhole(t, []byte(text))
		}
	}
}

// A picker is a plain row of numbers, the same in every run.
type picker uint64

func (p *picker) below(n int) int {
	*p = *p*6364136223846793005 + 1442695040888963407
	return int(uint64(*p)>>33) % n
}

func (p *picker) text(length int) []byte {
	text := make([]byte, length)
	for i := range text {
		switch p.below(10) {
		case 0, 1:
			text[i] = '\n'
		case 2, 3:
			text[i] = " \t"[p.below(2)]
		case 4, 5:
			text[i] = ".!?"[p.below(3)]
		case 6, 7:
			text[i] = "()[]{}\"'"[p.below(8)]
		default:
			text[i] = byte(p.below(256))
		}
	}
	return text
}

// nested is brackets that all have their partners, with other bytes between.
func (p *picker) nested(length int) []byte {
	var text, awaited []byte
	for len(text)+len(awaited) < length {
		switch p.below(5) {
		case 0, 1:
			k := 2 * p.below(3)
			text, awaited = append(text, "()[]{}"[k]), append(awaited, "()[]{}"[k+1])
		case 2, 3:
			if last := len(awaited) - 1; last >= 0 {
				text, awaited = append(text, awaited[last]), awaited[:last]
			}
		default:
			text = append(text, ". \nx"[p.below(4)])
		}
	}
	slices.Reverse(awaited)
	return append(text, awaited...)
}

func TestPickedTexts(t *testing.T) {
	p := picker(10)
	held := 0
	for range 60 {
		heldWhole(t, p.text(p.below(40)))
		text := p.nested(p.below(60))
		heldToWords(t, text, []string{"%"}, placesOf(len(text)), []int{1, 2})
		held += thereAndBack(t, text)
		if len(text) > 0 {
			text[p.below(len(text))] = "()[]{}"[p.below(6)]
		}
		heldToWords(t, text, []string{"%"}, placesOf(len(text)), []int{1, 2})
		thereAndBack(t, text)
	}
	if held < 1000 {
		t.Errorf("only %d ways back were held", held)
	}
}

// P10.2 and P10.3 say nothing where a motion is refused, so a text must leave enough that aren't.
func TestWhatIsHeldIsMuch(t *testing.T) {
	text := []byte("a. b! (c?) d\n\n[e] f.\n\n\n{g [h (i)]}. j\n")
	led, failed := stepByStep(t, text, placesOf(len(text)), 12)
	if led < 500 || failed < 500 {
		t.Errorf("only %d motions were held that lead on, and %d that fail", led, failed)
	}
	if held := thereAndBack(t, text); held != 10 {
		t.Errorf("%d ways back were held", held)
	}
}

// The greatest count is taken, and leads just so many stops on.
func TestGreatestCount(t *testing.T) {
	text := strings.Repeat("a.\n\n", api.MaxCount)
	size := len(text)
	holdMoves(t, []try{
		// Each paragraph leaves one stop; of the last one the empty line ends the text.
		{text, 0, api.MaxCount - 1, "}", exclusive(0, size-5)}, {text, 0, api.MaxCount, "}", exclusive(0, size-1)}, {text, 4, api.MaxCount, "}", exclusive(4, size)}, {text, 8, api.MaxCount, "}", refused(api.ErrMove)}, {text, 0, api.MaxCount + 1, "}", refused(api.ErrArg)},
		{text, size, api.MaxCount, "{", exclusive(size, 0)}, {text, size, api.MaxCount - 1, "{", exclusive(size, 3)}, {text, size - 4, api.MaxCount, "{", exclusive(size-4, 0)}, {text, size - 5, api.MaxCount, "{", refused(api.ErrMove)},
		// Each one leaves two: its beginning and the empty line.
		{text, 0, api.MaxCount, ")", exclusive(0, 4*(api.MaxCount/2)+3)}, {text, size, api.MaxCount, "(", exclusive(size, size-1-4*(api.MaxCount/2))},
		{text, size / 2, api.MaxCount, ")", exclusive(size/2, size-1)}, {text, size - 3, api.MaxCount, ")", refused(api.ErrMove)}, {text, 7, api.MaxCount, "(", refused(api.ErrMove)},
	})
}

// A text may be longer than what a machine holds: block has no limit of its own but that of the count.
func TestGreatTexts(t *testing.T) {
	p := picker(3)
	size := api.MaxText + 100
	places := []int{0, 9999, 10000, api.MaxText, size - 1, size, size + 1}
	few := []int{0, 1, 2, 9998, 9999, 10000}
	for _, text := range [][]byte{
		p.text(size), bytes.Repeat([]byte("\n"), size), bytes.Repeat([]byte(" "), size), bytes.Repeat([]byte("a"), size),
		bytes.Repeat([]byte(". "), size/2), bytes.Repeat([]byte("a\n\n"), size/3), bytes.Repeat([]byte(" \n"), size/2),
		[]byte("." + strings.Repeat(")", size-3) + " a"), []byte("." + strings.Repeat(" ", size-2) + "a"),
	} {
		heldToWords(t, text, []string{"{", "}", "(", ")"}, places, few)
	}
}

// Brackets may lie as deep in one another as a text is long.
func TestDeepBrackets(t *testing.T) {
	const deep = 1 << 16
	text := strings.Repeat("([", deep/2) + strings.Repeat("])", deep/2)
	last := len(text) - 1
	holdMoves(t, []try{
		{text, 0, 1, "%", inclusive(0, last)}, {text, last, 1, "%", inclusive(last, 0)}, {text, deep - 1, 1, "%", inclusive(deep-1, deep)}, {text, 1, 1, "%", inclusive(1, last-1)},
		{text[:last], 0, 1, "%", refused(api.ErrMove)}, {text[1:], last - 1, 1, "%", refused(api.ErrMove)}, {text[:last] + "]", 0, 1, "%", refused(api.ErrMove)}, {text[:last] + "]", last, 1, "%", refused(api.ErrMove)},
	})
	flat := "(" + strings.Repeat("[]", deep) + ")"
	holdMoves(t, []try{{flat, 0, 1, "%", inclusive(0, 2*deep+1)}, {flat, 2*deep + 1, 1, "%", inclusive(2*deep+1, 0)}})
	wide := strings.Repeat("x", api.MaxText) + "()"
	holdMoves(t, []try{{wide, 0, 1, "%", inclusive(0, api.MaxText+1)}})
}

func TestNilIsTheEmptyText(t *testing.T) {
	heldWhole(t, nil)
	heldWhole(t, []byte{})
}

func TestTextIsLeftAlone(t *testing.T) {
	for _, text := range []string{"", "a", "\n", "(", "a.", "a\n", example, "([{}"} {
		// What stands in the spare room must not be taken for the text's.
		whole := append([]byte(text), ")]. b\n\n\nspare}\n\n"...)
		before := bytes.Clone(whole)
		heldWhole(t, whole[:len(text)])
		if !bytes.Equal(whole, before) {
			t.Errorf("%q: the text or its spare room is now %q", text, whole)
		}
	}
}
