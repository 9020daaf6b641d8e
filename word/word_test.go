package word_test

import (
	"bytes"
	"math"
	"slices"
	"strings"
	"testing"

	"quoin/api"
	"quoin/word"
)

const example = "if (x) go\n\nend"

// An answer is all that Move answers; so it can be held against tables.
type answer struct {
	target api.Target
	e      api.Errno
}

func move(t []byte, at, count int, key string) answer {
	target, e := word.Move(t, at, count, key)
	return answer{target, e}
}

func exclusive(from, to int) answer {
	return answer{api.Target{From: from, To: to, Kind: api.Exclusive}, api.OK}
}

func inclusive(from, to int) answer {
	return answer{api.Target{From: from, To: to, Kind: api.Inclusive}, api.OK}
}

func refused(e api.Errno) answer { return answer{e: e} }

// A try is one call and what it must answer.
type try struct {
	text      string
	at, count int
	key       string
	answer    answer
}

func holdTries(t *testing.T, list []try) {
	t.Helper()
	for _, c := range list {
		if a := move([]byte(c.text), c.at, c.count, c.key); a != c.answer {
			t.Errorf("Move(%q, %d, %d, %q) = %v; want %v", c.text, c.at, c.count, c.key, a, c.answer)
		}
	}
}

func TestExamples(t *testing.T) {
	stops := refused(api.ErrMove)
	holdTries(t, []try{
		{example, 0, 0, "w", exclusive(0, 3)}, {example, 0, 2, "w", exclusive(0, 4)}, {example, 7, 0, "w", exclusive(7, 10)},
		{example, 7, 2, "w", exclusive(7, 11)}, {example, 7, 3, "w", exclusive(7, 14)}, {example, 13, 0, "w", exclusive(13, 14)}, {example, 14, 0, "w", stops},
		{example, 0, 0, "W", exclusive(0, 3)}, {example, 0, 2, "W", exclusive(0, 7)},
		{example, 11, 0, "b", exclusive(11, 10)}, {example, 10, 0, "b", exclusive(10, 7)}, {example, 4, 2, "b", exclusive(4, 0)}, {example, 1, 0, "b", exclusive(1, 0)}, {example, 0, 0, "b", stops},
		{example, 0, 0, "e", inclusive(0, 1)}, {example, 1, 0, "e", inclusive(1, 3)}, {example, 5, 0, "e", inclusive(5, 8)}, {example, 8, 0, "e", inclusive(8, 13)}, {example, 13, 0, "e", stops},
		{example, 1, 0, "E", inclusive(1, 5)},
		{example, 11, 0, "ge", inclusive(11, 10)}, {example, 10, 0, "ge", inclusive(10, 8)}, {example, 3, 0, "ge", inclusive(3, 1)}, {example, 1, 0, "ge", inclusive(1, 0)}, {example, 0, 0, "ge", stops},
		{example, 13, 9, "ge", inclusive(13, 0)},
	})
}

func TestForwardByHand(t *testing.T) {
	const text = " \tab..c \n \n\nd-\n"
	stops := refused(api.ErrMove)
	holdTries(t, []try{
		{text, 0, 0, "w", exclusive(0, 2)}, {text, 2, 1, "w", exclusive(2, 4)}, {text, 3, 1, "w", exclusive(3, 4)}, {text, 4, 1, "w", exclusive(4, 6)},
		// A line of blanks alone has bytes: w goes over it, and stops at the empty line behind it.
		{text, 6, 1, "w", exclusive(6, 11)}, {text, 8, 1, "w", exclusive(8, 11)}, {text, 11, 1, "w", exclusive(11, 12)}, {text, 12, 1, "w", exclusive(12, 13)},
		// The last line has no bytes, so its start is a beginning, which is the text's length too.
		{text, 13, 1, "w", exclusive(13, 15)}, {text, 14, 1, "w", exclusive(14, 15)}, {text, 13, 9999, "w", exclusive(13, 15)}, {text, 15, 1, "w", stops},
		{text, 0, 7, "w", exclusive(0, 15)}, {text, 0, 6, "w", exclusive(0, 13)}, {text, 0, 8, "w", exclusive(0, 15)},
		{text, 2, 1, "W", exclusive(2, 11)}, {text, 2, 2, "W", exclusive(2, 12)}, {text, 2, 3, "W", exclusive(2, 15)}, {text, 15, 1, "W", stops},
		{text, 0, 0, "e", inclusive(0, 3)}, {text, 3, 1, "e", inclusive(3, 5)}, {text, 4, 1, "e", inclusive(4, 5)}, {text, 5, 1, "e", inclusive(5, 6)},
		// e stops at no line without bytes; with too few endings it stays at the last one.
		{text, 6, 1, "e", inclusive(6, 12)}, {text, 6, 2, "e", inclusive(6, 13)}, {text, 6, 3, "e", inclusive(6, 13)}, {text, 0, 9999, "e", inclusive(0, 13)},
		{text, 13, 1, "e", stops}, {text, 14, 1, "e", stops}, {text, 15, 9999, "e", stops},
		{text, 0, 1, "E", inclusive(0, 6)}, {text, 6, 1, "E", inclusive(6, 13)}, {text, 12, 4, "E", inclusive(12, 13)}, {text, 13, 1, "E", stops},
		{"", 0, 0, "w", stops}, {"", 0, 0, "W", stops}, {"", 0, 0, "e", stops}, {"", 0, 0, "E", stops},
		{"  ", 0, 1, "w", exclusive(0, 2)}, {"  ", 0, 1, "e", stops}, {"\n", 0, 1, "w", exclusive(0, 1)}, {"\n\n", 0, 1, "e", stops}, {"\n ", 0, 1, "w", exclusive(0, 2)},
		{"a", 0, 1, "w", exclusive(0, 1)}, {"a", 0, 1, "e", stops}, {" a", 0, 1, "e", inclusive(0, 1)},
		{"a\nb", 0, 1, "w", exclusive(0, 2)}, {"a\nb", 0, 1, "e", inclusive(0, 2)}, {"a\xffb", 0, 1, "e", inclusive(0, 2)}, {"a\rb", 0, 1, "w", exclusive(0, 1)},
	})
}

func TestBackByHand(t *testing.T) {
	const text = " \tab..c \n \n\nd-\n"
	stops := refused(api.ErrMove)
	holdTries(t, []try{
		{text, 15, 0, "b", exclusive(15, 13)}, {text, 13, 1, "b", exclusive(13, 12)}, {text, 12, 1, "b", exclusive(12, 11)}, {text, 11, 1, "b", exclusive(11, 6)},
		{text, 6, 1, "b", exclusive(6, 4)}, {text, 5, 1, "b", exclusive(5, 4)}, {text, 4, 1, "b", exclusive(4, 2)}, {text, 3, 1, "b", exclusive(3, 2)},
		// 0 is no beginning here, and b goes there all the same.
		{text, 2, 1, "b", exclusive(2, 0)}, {text, 1, 1, "b", exclusive(1, 0)}, {text, 15, 6, "b", exclusive(15, 2)}, {text, 15, 7, "b", exclusive(15, 0)}, {text, 15, 9999, "b", exclusive(15, 0)}, {text, 0, 1, "b", stops},
		{text, 15, 1, "B", exclusive(15, 12)}, {text, 11, 1, "B", exclusive(11, 2)}, {text, 11, 2, "B", exclusive(11, 0)}, {text, 0, 1, "B", stops},
		{text, 15, 0, "ge", inclusive(15, 13)}, {text, 13, 1, "ge", inclusive(13, 12)}, {text, 12, 1, "ge", inclusive(12, 11)}, {text, 11, 1, "ge", inclusive(11, 6)},
		{text, 6, 1, "ge", inclusive(6, 5)}, {text, 5, 1, "ge", inclusive(5, 3)}, {text, 3, 1, "ge", inclusive(3, 0)}, {text, 15, 6, "ge", inclusive(15, 3)}, {text, 15, 7, "ge", inclusive(15, 0)}, {text, 0, 9999, "ge", stops},
		{text, 15, 1, "gE", inclusive(15, 13)}, {text, 13, 1, "gE", inclusive(13, 11)}, {text, 11, 1, "gE", inclusive(11, 6)}, {text, 6, 1, "gE", inclusive(6, 0)}, {text, 0, 1, "gE", stops},
		{"", 0, 0, "b", stops}, {"", 0, 0, "B", stops}, {"", 0, 0, "ge", stops}, {"", 0, 0, "gE", stops},
		{"  ", 2, 1, "b", exclusive(2, 0)}, {"  ", 2, 1, "ge", inclusive(2, 0)}, {"\n\n", 2, 1, "b", exclusive(2, 1)}, {"\n\n", 2, 1, "ge", inclusive(2, 1)}, {"\n\n", 2, 2, "gE", inclusive(2, 0)},
		{"a", 1, 1, "b", exclusive(1, 0)}, {"a", 1, 1, "ge", inclusive(1, 0)}, {"a\nb", 2, 1, "ge", inclusive(2, 0)}, {"a\n", 2, 1, "ge", inclusive(2, 0)},
	})
}

func TestWrongArguments(t *testing.T) {
	wrong := refused(api.ErrArg)
	for _, key := range keys() {
		for _, at := range []int{-1, len(example) + 1, math.MinInt, math.MaxInt} {
			holdTries(t, []try{{example, at, 1, key, wrong}, {"", at, 1, key, wrong}})
		}
		for _, count := range []int{-1, 10000, math.MinInt, math.MaxInt} {
			// What is wrong is told ahead of a motion that fails.
			holdTries(t, []try{{example, 7, count, key, wrong}, {example, 0, count, key, wrong}, {example, len(example), count, key, wrong}})
		}
	}
}

func TestWrongKeys(t *testing.T) {
	wrong := refused(api.ErrArg)
	for _, key := range []string{"", "g", "gw", "gb", "gW", "Ge", "GE", "eg", "gge", "gee", "ww", "w ", " w", "w\x00", "bb", "gè", "\xff"} {
		holdTries(t, []try{{example, 7, 1, key, wrong}, {example, 0, 1, key, wrong}, {example, len(example), 1, key, wrong}})
	}
	// Each byte as a key: the six are taken, all others are refused; with g ahead the two.
	for b := range 256 {
		for _, key := range []string{string([]byte{byte(b)}), string([]byte{'g', byte(b)})} {
			a := move([]byte(example), 7, 0, key)
			if isWrong := a == wrong; isWrong == isKey(key) {
				t.Errorf("the key %q: %v", key, a)
			}
		}
	}
}

func counts(length int) []int {
	list := []int{math.MinInt, -1, 9998, 9999, 10000, math.MaxInt}
	for n := 0; n <= length+2; n++ {
		list = append(list, n)
	}
	return list
}

func placesOf(length int) []int {
	list := []int{math.MinInt, math.MaxInt}
	for at := -2; at <= length+2; at++ {
		list = append(list, at)
	}
	return list
}

// heldToWords: P8.1, and P8.3 of what is answered.
func heldToWords(t *testing.T, text []byte, places, counts []int) {
	t.Helper()
	p := pageOf(text)
	for _, key := range append(keys(), "", "g", "x") {
		for _, at := range places {
			for _, count := range counts {
				a := move(text, at, count, key)
				if told := wordMove(p, at, count, key); a != told {
					t.Fatalf("Move(%q, %d, %d, %q) = %v; want %v", text, at, count, key, a, told)
				}
				rightWay(t, text, key, a)
			}
		}
	}
}

// rightWay: P8.3.
func rightWay(t *testing.T, text []byte, key string, a answer) {
	t.Helper()
	if a.e != api.OK {
		return
	}
	from, to := a.target.From, a.target.To
	if to < 0 || to > len(text) {
		t.Fatalf("%q, %q: To is %d", text, key, to)
	}
	up := slices.Contains([]string{"w", "W", "e", "E"}, key)
	if up && to <= from || !up && to >= from {
		t.Fatalf("%q, %q: from %d to %d", text, key, from, to)
	}
}

// stepByStep: P8.2. It answers how often two motions were held against one, where the second leads on and where it fails.
func stepByStep(t *testing.T, text []byte, places, counts []int) (led, failed int) {
	t.Helper()
	for _, key := range keys() {
		for _, at := range places {
			for _, m := range counts {
				one := move(text, at, m, key)
				if one.e != api.OK {
					continue
				}
				for _, n := range counts {
					if m+n > api.MaxCount {
						continue
					}
					want := one.target.To
					if two := move(text, one.target.To, n, key); two.e == api.OK {
						want = two.target.To
						led++
					} else if two.e == api.ErrMove {
						failed++
					}
					if a := move(text, at, m+n, key); a.e != api.OK || a.target.To != want {
						t.Fatalf("%q at %d: %d %q and then %d lead to %d, with %d to %v", text, at, m, key, n, want, m+n, a)
					}
				}
			}
		}
	}
	return led, failed
}

func upTo(n int) []int {
	var list []int
	for i := 1; i <= n; i++ {
		list = append(list, i)
	}
	return list
}

// thereAndBack: P8.4. It answers how often w and e were followed by their way back.
func thereAndBack(t *testing.T, text []byte) (words, ends int) {
	t.Helper()
	p := pageOf(text)
	for at := 0; at <= len(text); at++ {
		for _, pair := range [][2]string{{"w", "b"}, {"W", "B"}} {
			list := p.stops(pair[0]).beginnings
			to := move(text, at, 1, pair[0])
			if to.e == api.OK && slices.Contains(list, at) && slices.Contains(list, to.target.To) {
				words++
				leadsBack(t, text, to, pair)
			}
		}
		for _, pair := range [][2]string{{"e", "ge"}, {"E", "gE"}} {
			to := move(text, at, 1, pair[0])
			if to.e == api.OK && slices.Contains(p.stops(pair[0]).endings, at) && !anyBetween(p.empties, at, to.target.To) {
				ends++
				leadsBack(t, text, to, pair)
			}
		}
	}
	return words, ends
}

func leadsBack(t *testing.T, text []byte, there answer, pair [2]string) {
	t.Helper()
	from, to := there.target.From, there.target.To
	if back := move(text, to, 1, pair[1]); back.e != api.OK || back.target.To != from {
		t.Fatalf("%q: %q leads from %d to %d, and %q back to %v", text, pair[0], from, to, pair[1], back)
	}
}

func anyBetween(list []int, low, high int) bool {
	return slices.ContainsFunc(list, func(p int) bool { return p > low && p < high })
}

// kindsAlone: P8.5, of two texts whose bytes are of the same kinds.
func kindsAlone(t *testing.T, text, other []byte, counts []int) {
	t.Helper()
	for _, key := range keys() {
		for at := 0; at <= len(text); at++ {
			for _, count := range counts {
				if a, b := move(text, at, count, key), move(other, at, count, key); a != b {
					t.Fatalf("%d %q at %d: %v in %q, %v in %q", count, key, at, a, text, b, other)
				}
			}
		}
	}
}

func heldWhole(t *testing.T, text []byte) {
	t.Helper()
	places := placesOf(len(text))
	heldToWords(t, text, places, counts(len(text)))
	stepByStep(t, text, places, []int{1, 2, 3, len(text) + 1, 9998})
	thereAndBack(t, text)
}

// eachText calls do with every text of these bytes up to this length.
func eachText(alphabet string, length int, do func(text []byte)) {
	text := make([]byte, 0, length)
	var grow func()
	grow = func() {
		do(text)
		if len(text) == length {
			return
		}
		for i := 0; i < len(alphabet); i++ {
			text = append(text, alphabet[i])
			grow()
			text = text[:len(text)-1]
		}
	}
	grow()
}

func TestEveryShortText(t *testing.T) {
	eachText("a. \n", 5, func(text []byte) { heldWhole(t, text) })
	eachText("a\n ", 6, func(text []byte) { heldWhole(t, text) })
	eachText("x\t\n\r\xff", 3, func(text []byte) { heldWhole(t, text) })
}

// Each byte stands once by itself, and once between bytes of each kind.
func TestEveryByte(t *testing.T) {
	for b := range 256 {
		heldWhole(t, []byte{byte(b)})
		for _, about := range []string{"aa", "..", "  ", "\n\n", "a.", ".a"} {
			heldWhole(t, []byte{about[0], byte(b), about[1]})
		}
	}
}

// A picker is a plain row of numbers, the same in every run.
type picker uint64

func (p *picker) below(n int) int {
	*p = *p*6364136223846793005 + 1442695040888963407
	return int(uint64(*p)>>33) % n
}

func (p *picker) text(length int) []byte {
	text := make([]byte, length)
	for i := range text {
		switch p.below(9) {
		case 0, 1:
			text[i] = '\n'
		case 2, 3:
			text[i] = " \t"[p.below(2)]
		case 4, 5:
			text[i] = "abz_09AZ"[p.below(8)]
		default:
			text[i] = byte(p.below(256))
		}
	}
	return text
}

func TestPickedTexts(t *testing.T) {
	p := picker(8)
	for range 60 {
		text := p.text(p.below(40))
		heldToWords(t, text, placesOf(len(text)), counts(len(text)))
		stepByStep(t, text, placesOf(len(text)), upTo(12))
		thereAndBack(t, text)
	}
}

// P8.2 and P8.4 say nothing where a motion is refused, so a text must leave enough that aren't.
func TestStepsAndWaysBackAreMany(t *testing.T) {
	text := []byte("if (x) go\n\n  end.\n\n\nof it\n")
	led, failed := stepByStep(t, text, placesOf(len(text)), upTo(10))
	if led < 3000 || failed < 3000 {
		t.Errorf("only %d motions were held that lead on, and %d that fail", led, failed)
	}
	words, ends := thereAndBack(t, text)
	if words < 15 || ends < 8 {
		t.Errorf("only %d times w and b, %d times e and ge", words, ends)
	}
}

// P8.2 at the greatest count: the two counts are together just what may be given.
func TestStepByStepAtTheGreatestCount(t *testing.T) {
	text := bytes.Repeat([]byte("a.\n\n"), 6000)
	stepByStep(t, text, []int{0, 1, len(text) / 2, len(text)}, []int{1, 2, 4999, 5000, 9997, 9998})
}

// others is a text where each byte but the line ends is put for another one of its kind.
func (p *picker) others(text []byte) []byte {
	other := bytes.Clone(text)
	for i, b := range text {
		for kindOf(other[i]) != kindOf(b) || other[i] == b && b != '\n' {
			other[i] = byte(p.below(256))
		}
	}
	return other
}

// changed is a text with each byte of one list put for the one at its place in the other.
func changed(text, from, to string) []byte {
	other := []byte(text)
	for i, b := range other {
		if k := strings.IndexByte(from, b); k >= 0 {
			other[i] = to[k]
		}
	}
	return other
}

func TestKindsAlone(t *testing.T) {
	p := picker(5)
	for _, text := range []string{"", "a", example, " \tab..c \n \n\nd-\n", "A_9\xff \xc3\xa9(\x00)\x7f\r\n"} {
		for range 20 {
			kindsAlone(t, []byte(text), p.others([]byte(text)), []int{0, 1, 2, 3, 9999})
		}
		kindsAlone(t, []byte(text), changed(text, "abcdefgixno", "ZYXWVUTSRQP"), []int{0, 1, 2, 9999})
		kindsAlone(t, []byte(text), changed(text, " \t", "\t "), []int{0, 1, 2, 9999})
	}
	for range 40 {
		text := p.text(p.below(40))
		kindsAlone(t, text, p.others(text), []int{0, 1, 2, 3, 9999})
	}
}

// A text may be longer than what a machine holds: word has no limit of its own but that of the count.
func TestGreatTexts(t *testing.T) {
	p := picker(3)
	size := api.MaxText + 100
	places := []int{0, 9999, 10000, api.MaxText, size, size + 1}
	few := []int{0, 2, 9998, 9999, 10000}
	for _, text := range [][]byte{
		p.text(size),
		bytes.Repeat([]byte("\n"), size), bytes.Repeat([]byte(" "), size), bytes.Repeat([]byte("a"), size),
		bytes.Repeat([]byte("a."), size/2), bytes.Repeat([]byte("ab \n"), size/4),
	} {
		heldToWords(t, text, places, few)
	}
}

func TestNilIsTheEmptyText(t *testing.T) {
	heldWhole(t, nil)
	heldWhole(t, []byte{})
}

func TestTextIsLeftAlone(t *testing.T) {
	for _, text := range []string{"", "a", "\n", " ", example, "a.\nb\n"} {
		whole := append([]byte(text), "spare\n\n.\n"...)
		before := bytes.Clone(whole)
		heldWhole(t, whole[:len(text)])
		if !bytes.Equal(whole, before) {
			t.Errorf("%q: the text or its spare room is now %q", text, whole)
		}
	}
}
