package step_test

import (
	"bytes"
	"math"
	"testing"

	"quoin/api"
	"quoin/lines"
	"quoin/step"
)

const example = "ab\n\ncde"

// An answer is all that Move answers; so it can be held against tables.
type answer struct {
	target api.Target
	wanted int
	e      api.Errno
}

func move(t []byte, at, want, count int, key string) answer {
	target, wanted, e := step.Move(t, at, want, count, key)
	return answer{target, wanted, e}
}

func exclusive(from, to, wanted int) answer {
	return answer{api.Target{From: from, To: to, Kind: api.Exclusive}, wanted, api.OK}
}

func linewise(from, to, wanted int) answer {
	return answer{api.Target{From: from, To: to, Kind: api.Linewise}, wanted, api.OK}
}

func refused(e api.Errno) answer { return answer{e: e} }

// A try is one call and what it must answer.
type try struct {
	text            string
	at, want, count int
	key             string
	answer          answer
}

func holdTries(t *testing.T, list []try) {
	t.Helper()
	for _, c := range list {
		if a := move([]byte(c.text), c.at, c.want, c.count, c.key); a != c.answer {
			t.Errorf("Move(%q, %d, %d, %d, %q) = %v; want %v", c.text, c.at, c.want, c.count, c.key, a, c.answer)
		}
	}
}

func TestExamples(t *testing.T) {
	stops := refused(api.ErrMove)
	holdTries(t, []try{
		{example, 0, 0, 0, "l", exclusive(0, 1, 1)}, {example, 0, 0, 5, "l", exclusive(0, 2, 2)},
		{example, 2, 0, 0, "l", stops}, {example, 3, 0, 0, "l", stops},
		{example, 1, 0, 0, "h", exclusive(1, 0, 0)}, {example, 0, 0, 0, "h", stops},
		{example, 1, 0, 1, " ", exclusive(1, 3, 0)}, {example, 1, 0, 2, " ", exclusive(1, 4, 0)}, {example, 1, 0, 9, " ", exclusive(1, 7, 3)},
		{example, 7, 0, 0, " ", stops},
		{example, 4, 0, 0, "\b", exclusive(4, 3, 0)}, {example, 4, 0, 2, "\b", exclusive(4, 1, 1)},
		{example, 1, 1, 0, "j", linewise(1, 3, 1)}, {example, 3, 1, 0, "j", linewise(3, 5, 1)}, {example, 3, -1, 0, "j", linewise(3, 6, -1)},
		{example, 4, 0, 0, "j", stops},
		{example, 0, 0, 0, "$", exclusive(0, 2, -1)}, {example, 0, 0, 3, "$", exclusive(0, 7, -1)}, {example, 0, 0, 4, "$", stops},
		{example, 0, 0, 0, "G", linewise(0, 4, 0)}, {example, 0, 0, 2, "G", linewise(0, 3, 0)}, {example, 0, 0, 4, "G", stops},
		{example, 5, 0, 9, "|", exclusive(5, 6, 8)},
	})
}

func TestBytesByHand(t *testing.T) {
	stops := refused(api.ErrMove)
	holdTries(t, []try{
		{example, 6, 0, 1, "h", exclusive(6, 5, 1)}, {example, 6, 0, 2, "h", exclusive(6, 4, 0)}, {example, 6, 0, 3, "h", exclusive(6, 4, 0)},
		{example, 7, 0, 9999, "h", exclusive(7, 4, 0)}, {example, 4, 0, 1, "h", stops}, {example, 3, 0, 1, "h", stops}, {example, 2, 0, 1, "h", exclusive(2, 1, 1)},
		{example, 4, 0, 2, "l", exclusive(4, 6, 2)}, {example, 4, 0, 3, "l", exclusive(4, 7, 3)}, {example, 6, 0, 9999, "l", exclusive(6, 7, 3)}, {example, 7, 0, 1, "l", stops},
		// The line's end is no resting place, and the text's length is one where space stops all the same.
		{example, 0, 0, 2, " ", exclusive(0, 3, 0)}, {example, 2, 0, 0, " ", exclusive(2, 3, 0)}, {example, 6, 0, 0, " ", exclusive(6, 7, 3)}, {example, 5, 0, 2, " ", exclusive(5, 7, 3)}, {example, 5, 0, 9999, " ", exclusive(5, 7, 3)},
		{"a\n", 0, 0, 0, " ", exclusive(0, 2, 0)}, {"a\n", 0, 0, 2, " ", exclusive(0, 2, 0)}, {"a\n", 1, 0, 0, " ", exclusive(1, 2, 0)}, {"a\n", 2, 0, 0, " ", stops},
		{"\n\n", 0, 0, 0, " ", exclusive(0, 1, 0)}, {"\n\n", 0, 0, 2, " ", exclusive(0, 2, 0)}, {"\n\n", 0, 0, 3, " ", exclusive(0, 2, 0)}, {"", 0, 0, 0, " ", stops},
		{example, 7, 0, 0, "\b", exclusive(7, 6, 2)}, {example, 4, 0, 3, "\b", exclusive(4, 0, 0)}, {example, 4, 0, 4, "\b", exclusive(4, 0, 0)}, {example, 7, 0, 9999, "\b", exclusive(7, 0, 0)},
		{example, 2, 0, 0, "\b", exclusive(2, 1, 1)}, {example, 3, 0, 0, "\b", exclusive(3, 1, 1)}, {example, 0, 0, 0, "\b", stops}, {"", 0, 0, 0, "\b", stops},
		{"\n", 1, 0, 0, "\b", exclusive(1, 0, 0)}, {"ab\n", 3, 0, 2, "\b", exclusive(3, 0, 0)},
		{"", 0, 0, 0, "h", stops}, {"", 0, 0, 0, "l", stops},
	})
}

func TestLinesByHand(t *testing.T) {
	const text = "  ab\n\n\t \n x\n"
	stops := refused(api.ErrMove)
	holdTries(t, []try{
		{text, 0, 3, 1, "j", linewise(0, 5, 3)}, {text, 0, 3, 2, "j", linewise(0, 7, 3)}, {text, 0, math.MaxInt, 3, "j", linewise(0, 10, math.MaxInt)}, {text, 4, 0, 4, "j", linewise(4, 12, 0)},
		{text, 4, 0, 5, "j", stops}, {text, 4, 0, 9999, "j", stops}, {text, 12, 0, 0, "j", stops},
		{text, 12, 2, 4, "k", linewise(12, 2, 2)}, {text, 12, -1, 4, "k", linewise(12, 3, -1)}, {text, 12, 2, 0, "k", linewise(12, 10, 2)}, {text, 12, 2, 5, "k", stops}, {text, 0, 2, 9999, "k", stops},
		{text, 0, 0, 0, "+", linewise(0, 5, 0)}, {text, 0, 0, 2, "+", linewise(0, 7, 1)}, {text, 0, 0, 3, "\r", linewise(0, 10, 1)}, {text, 0, 9, 4, "\r", linewise(0, 12, 0)}, {text, 0, 0, 5, "+", stops}, {text, 0, 0, 5, "\r", stops},
		{text, 12, 0, 0, "-", linewise(12, 10, 1)}, {text, 12, 7, 4, "-", linewise(12, 2, 2)}, {text, 12, 0, 5, "-", stops}, {text, 3, 0, 0, "-", stops},
		{text, 0, 9, 0, "_", linewise(0, 2, 2)}, {text, 0, 0, 1, "_", linewise(0, 2, 2)}, {text, 0, 0, 2, "_", linewise(0, 5, 0)}, {text, 6, 0, 3, "_", linewise(6, 12, 0)}, {text, 6, 0, 4, "_", stops},
		{text, 3, 9, 0, "0", exclusive(3, 0, 0)}, {text, 11, 0, 9999, "0", exclusive(11, 9, 0)}, {text, 12, 5, 0, "0", exclusive(12, 12, 0)},
		{text, 4, 0, 0, "^", exclusive(4, 2, 2)}, {text, 0, 0, 9999, "^", exclusive(0, 2, 2)}, {text, 6, 0, 0, "^", exclusive(6, 7, 1)}, {text, 5, 0, 3, "^", exclusive(5, 5, 0)},
		{text, 0, 0, 0, "$", exclusive(0, 4, -1)}, {text, 4, 0, 1, "$", exclusive(4, 4, -1)}, {text, 0, 0, 2, "$", exclusive(0, 5, -1)}, {text, 0, 0, 5, "$", exclusive(0, 12, -1)}, {text, 0, 0, 6, "$", stops}, {text, 12, 0, 2, "$", stops},
		{text, 3, 9, 0, "|", exclusive(3, 0, 0)}, {text, 0, 0, 1, "|", exclusive(0, 0, 0)}, {text, 0, 0, 4, "|", exclusive(0, 3, 3)}, {text, 0, 0, 5, "|", exclusive(0, 3, 4)}, {text, 5, 0, 9999, "|", exclusive(5, 5, 9998)},
		{text, 0, 0, 0, "G", linewise(0, 12, 0)}, {text, 0, 0, 1, "G", linewise(0, 2, 2)}, {text, 0, 8, 4, "G", linewise(0, 10, 1)}, {text, 0, 0, 5, "G", linewise(0, 12, 0)}, {text, 0, 0, 6, "G", stops},
		{text, 12, 0, 0, "gg", linewise(12, 2, 2)}, {text, 12, 0, 1, "gg", linewise(12, 2, 2)}, {text, 12, 8, 4, "gg", linewise(12, 10, 1)}, {text, 0, 0, 5, "gg", linewise(0, 12, 0)}, {text, 0, 0, 6, "gg", stops},
	})
}

func TestWrongArguments(t *testing.T) {
	wrong := refused(api.ErrArg)
	for _, key := range keys() {
		for _, n := range []int{-1, len(example) + 1, math.MinInt, math.MaxInt} {
			holdTries(t, []try{{example, n, 0, 1, key, wrong}, {"", n, 0, 1, key, wrong}})
		}
		for _, want := range []int{-2, -3, math.MinInt} {
			holdTries(t, []try{{example, 0, want, 1, key, wrong}})
		}
		for _, count := range []int{-1, 10000, math.MinInt, math.MaxInt} {
			holdTries(t, []try{{example, 0, 0, count, key, wrong}})
		}
	}
	// What is wrong is told ahead of a motion that fails.
	holdTries(t, []try{
		{example, 0, -2, 1, "h", wrong}, {example, 0, 0, 10000, "h", wrong}, {example, 7, 0, -1, " ", wrong}, {example, 0, 0, 10000, "k", wrong},
	})
}

func TestWrongKeys(t *testing.T) {
	wrong := refused(api.ErrArg)
	for _, key := range []string{"", "g", "ggg", "gG", "GG", "hh", "h ", " h", "  ", "\b\b", "\r\n", "00", "|h", "h\x00", "jj", "¦", "\u00a0", "\xff"} {
		holdTries(t, []try{{example, 4, 0, 1, key, wrong}})
	}
	// Each byte as a key: those of the table are taken, all others are refused.
	for b := range 256 {
		key := string([]byte{byte(b)})
		a := move([]byte(example), 4, 0, 0, key)
		if isWrong := a == wrong; isWrong == isKey(key) {
			t.Errorf("the key %q: %v", key, a)
		}
	}
}

func counts(length int) []int {
	list := []int{math.MinInt, -1, 9998, 9999, 10000, math.MaxInt}
	for n := 0; n <= length+2; n++ {
		list = append(list, n)
	}
	return list
}

// heldToWords: P7.1, and P7.2 of what is answered.
func heldToWords(t *testing.T, text []byte, places, wants, counts []int) {
	t.Helper()
	p := pageOf(text)
	for _, key := range append(keys(), "", "g", "x") {
		for _, at := range places {
			for _, want := range wants {
				for _, count := range counts {
					a := move(text, at, want, count, key)
					if told := wordMove(p, at, want, count, key); a != told {
						t.Fatalf("Move(%q, %d, %d, %d, %q) = %v; want %v", text, at, want, count, key, a, told)
					}
					inTheText(t, text, key, a)
				}
			}
		}
	}
}

// inTheText: P7.2.
func inTheText(t *testing.T, text []byte, key string, a answer) {
	if a.e != api.OK {
		return
	}
	to := a.target.To
	if to < 0 || to > len(text) {
		t.Fatalf("%q, %q: To is %d", text, key, to)
	}
	if a.target.Kind == api.Linewise && lines.Rest(text, to) != to {
		t.Fatalf("%q, %q: To is %d, where no cursor rests", text, key, to)
	}
}

// oneByOne is n times the motion, the column wanted handed on; false where one is refused or, if so asked, leads to no resting place.
func oneByOne(text []byte, at, want, n int, key string, resting bool) (answer, bool) {
	var a answer
	here := at
	for range n {
		a = move(text, here, want, 1, key)
		if a.e != api.OK {
			return answer{}, false
		}
		here, want = a.target.To, a.wanted
		if resting && lines.Rest(text, here) != here {
			return answer{}, false
		}
	}
	a.target.From = at
	return a, true
}

// countedSteps: P7.3. It answers how often a motion with a count was held against one by one.
func countedSteps(t *testing.T, text []byte, most int) int {
	t.Helper()
	held := 0
	for _, key := range []string{"h", "l", "j", "k", " ", "\b"} {
		far := key == " " || key == "\b"
		for at := 0; at <= len(text); at++ {
			if far && lines.Rest(text, at) != at {
				continue
			}
			for _, want := range []int{-1, 0, 1, 4} {
				for n := 1; n <= most; n++ {
					steps, ok := oneByOne(text, at, want, n, key, far)
					if !ok {
						break
					}
					held++
					if a := move(text, at, want, n, key); a != steps {
						t.Fatalf("%q at %d, want %d: %d times %q lead to %v, with the count to %v", text, at, want, n, key, steps, a)
					}
				}
			}
		}
	}
	return held
}

func placesOf(length int) []int {
	list := []int{math.MinInt, math.MaxInt}
	for at := -2; at <= length+2; at++ {
		list = append(list, at)
	}
	return list
}

func heldWhole(t *testing.T, text []byte) {
	t.Helper()
	wants := []int{math.MinInt, -2, -1, 0, 1, 3, math.MaxInt}
	heldToWords(t, text, placesOf(len(text)), wants, counts(len(text)))
	countedSteps(t, text, len(text)+2)
}

// eachText calls do with every text of these bytes up to this length.
func eachText(alphabet string, length int, do func(text []byte)) {
	text := make([]byte, 0, length)
	var grow func()
	grow = func() {
		do(text)
		if len(text) == length {
			return
		}
		for i := 0; i < len(alphabet); i++ {
			text = append(text, alphabet[i])
			grow()
			text = text[:len(text)-1]
		}
	}
	grow()
}

func TestEveryShortText(t *testing.T) {
	eachText("a \n", 5, func(text []byte) { heldWhole(t, text) })
	eachText("x\t\n\r", 3, func(text []byte) { heldWhole(t, text) })
}

// Each byte stands once in the way of every motion.
func TestEveryByte(t *testing.T) {
	for b := range 256 {
		heldWhole(t, []byte{byte(b)})
		heldWhole(t, []byte{' ', byte(b), 'a'})
	}
}

// A picker is a plain row of numbers, the same in every run.
type picker uint64

func (p *picker) below(n int) int {
	*p = *p*6364136223846793005 + 1442695040888963407
	return int(uint64(*p)>>33) % n
}

func (p *picker) text(length int) []byte {
	text := make([]byte, length)
	for i := range text {
		switch p.below(8) {
		case 0, 1:
			text[i] = '\n'
		case 2, 3:
			text[i] = " \t"[p.below(2)]
		default:
			text[i] = byte(p.below(256))
		}
	}
	return text
}

func TestPickedTexts(t *testing.T) {
	p := picker(7)
	for range 40 {
		text := p.text(p.below(24))
		heldToWords(t, text, placesOf(len(text)), []int{-1, 0, 3, 90}, counts(len(text)))
		countedSteps(t, text, 30)
	}
}

// P7.3 says nothing where a step is refused, so a text must leave enough that aren't.
func TestCountedStepsAreMany(t *testing.T) {
	if held := countedSteps(t, []byte("abcd\n\nef\n gh\n"), 20); held < 400 {
		t.Errorf("only %d motions were held against one by one", held)
	}
}

// A text may be longer than what a machine holds: step has no limit of its own but that of the count.
func TestGreatTexts(t *testing.T) {
	p := picker(3)
	size := api.MaxText + 100
	places := []int{0, 9999, 10000, api.MaxText, size, size + 1}
	few := []int{0, 2, 9998, 9999, 10000}
	for _, text := range [][]byte{p.text(size), bytes.Repeat([]byte("\n"), size), bytes.Repeat([]byte(" "), size), bytes.Repeat([]byte("abc\n"), size/4)} {
		heldToWords(t, text, places, []int{5, math.MaxInt}, few)
	}
}

func TestNilIsTheEmptyText(t *testing.T) {
	heldWhole(t, nil)
	heldWhole(t, []byte{})
}

func TestTextIsLeftAlone(t *testing.T) {
	for _, text := range []string{"", "a", "\n", example, "a\nb\n"} {
		whole := append([]byte(text), "\nspare\n"...)
		before := bytes.Clone(whole)
		heldWhole(t, whole[:len(text)])
		if !bytes.Equal(whole, before) {
			t.Errorf("%q: the text or its spare room is now %q", text, whole)
		}
	}
}
