package seek_test

import (
	"bytes"
	"math"
	"testing"

	"quoin/api"
	"quoin/seek"
)

const example = "abcabc"

// An answer is all that a call answers; so it can be held against tables.
type answer struct {
	target api.Target
	e      api.Errno
}

func move(t []byte, at, count int, f api.Find) answer {
	target, e := seek.Move(t, at, count, f)
	return answer{target, e}
}

func again(t []byte, at, count int, f api.Find, turned bool) answer {
	target, e := seek.Again(t, at, count, f, turned)
	return answer{target, e}
}

func exclusive(from, to int) answer {
	return answer{api.Target{From: from, To: to, Kind: api.Exclusive}, api.OK}
}

func inclusive(from, to int) answer {
	return answer{api.Target{From: from, To: to, Kind: api.Inclusive}, api.OK}
}

func refused(e api.Errno) answer { return answer{e: e} }

// find is a find as it is typed: the key and the byte.
func find(typed string) api.Find { return api.Find{Key: typed[0], Arg: typed[1]} }

// A try is one call and what it must answer.
type try struct {
	text      string
	at, count int
	typed     string
	answer    answer
}

func holdMoves(t *testing.T, list []try) {
	t.Helper()
	for _, c := range list {
		if a := move([]byte(c.text), c.at, c.count, find(c.typed)); a != c.answer {
			t.Errorf("Move(%q, %d, %d, %q) = %v; want %v", c.text, c.at, c.count, c.typed, a, c.answer)
		}
	}
}

func holdAgains(t *testing.T, turned bool, list []try) {
	t.Helper()
	for _, c := range list {
		if a := again([]byte(c.text), c.at, c.count, find(c.typed), turned); a != c.answer {
			t.Errorf("Again(%q, %d, %d, %q, %v) = %v; want %v", c.text, c.at, c.count, c.typed, turned, a, c.answer)
		}
	}
}

func TestExamples(t *testing.T) {
	stops := refused(api.ErrMove)
	holdMoves(t, []try{
		{example, 0, 1, "fc", inclusive(0, 2)}, {example, 0, 2, "fc", inclusive(0, 5)}, {example, 0, 3, "fc", stops}, {example, 0, 1, "fa", inclusive(0, 3)},
		{example, 0, 1, "tc", inclusive(0, 1)}, {example, 0, 1, "tb", inclusive(0, 0)},
		{example, 0, 1, "Ta", stops}, {example, 0, 1, "Tb", stops}, {example, 0, 1, "Tc", stops},
		{example, 4, 1, "Fa", exclusive(4, 3)}, {example, 4, 1, "Ta", exclusive(4, 4)}, {example, 4, 2, "Fa", exclusive(4, 0)},
		{"abc\nabc", 1, 2, "fc", stops}, {"abc\nabc", 1, 1, "fa", stops}, {"abc\nabc", 5, 1, "Fc", stops}, {"abc\nabc", 5, 2, "Fa", stops},
	})
	holdAgains(t, false, []try{{example, 1, 1, "tc", inclusive(1, 4)}, {example, 0, 1, "\x00c", stops}})
	holdAgains(t, true, []try{{example, 4, 1, "tb", exclusive(4, 2)}, {example, 0, 1, "\x00c", stops}})
}

func TestMoveByHand(t *testing.T) {
	const text = "x-x\n-xx--x\n\nx"
	stops := refused(api.ErrMove)
	holdMoves(t, []try{
		// The count 0 says that none was given.
		{text, 4, 0, "fx", inclusive(4, 5)}, {text, 4, 1, "fx", inclusive(4, 5)}, {text, 4, 2, "fx", inclusive(4, 6)}, {text, 4, 3, "fx", inclusive(4, 9)}, {text, 4, 4, "fx", stops}, {text, 4, 9999, "fx", stops},
		{text, 4, 0, "tx", inclusive(4, 4)}, {text, 4, 2, "tx", inclusive(4, 5)}, {text, 4, 3, "tx", inclusive(4, 8)}, {text, 4, 4, "tx", stops},
		{text, 9, 0, "Fx", exclusive(9, 6)}, {text, 9, 2, "Fx", exclusive(9, 5)}, {text, 9, 3, "Fx", stops}, {text, 9, 3, "F-", exclusive(9, 4)},
		{text, 9, 0, "T-", exclusive(9, 9)}, {text, 9, 2, "T-", exclusive(9, 8)}, {text, 9, 3, "T-", exclusive(9, 5)}, {text, 9, 4, "T-", stops},
		// From the end of a line its last byte is back, and the next line is not ahead.
		{text, 3, 0, "Fx", exclusive(3, 2)}, {text, 3, 0, "Tx", exclusive(3, 3)}, {text, 3, 0, "f-", stops}, {text, 3, 0, "t-", stops}, {text, 3, 0, "fx", stops},
		{text, 10, 0, "Fx", exclusive(10, 9)}, {text, 10, 3, "Tx", exclusive(10, 6)}, {text, 10, 0, "fx", stops},
		// A line without bytes has nothing to find, whatever stands about it.
		{text, 11, 0, "fx", stops}, {text, 11, 0, "tx", stops}, {text, 11, 0, "Fx", stops}, {text, 11, 0, "Tx", stops},
		{text, 12, 0, "fx", stops}, {text, 13, 0, "Fx", exclusive(13, 12)}, {text, 13, 0, "Tx", exclusive(13, 13)}, {text, 13, 2, "Fx", stops}, {text, 12, 0, "Fx", stops},
		{text, 0, 0, "f\n", stops}, {text, 2, 0, "f\n", stops}, {text, 2, 0, "t\n", stops}, {text, 4, 0, "F\n", stops}, {text, 4, 0, "T\n", stops}, {text, 3, 0, "F\n", stops}, {text, 11, 0, "f\n", stops},
		{"", 0, 0, "fa", stops}, {"", 0, 0, "ta", stops}, {"", 0, 0, "Fa", stops}, {"", 0, 0, "Ta", stops}, {"a", 0, 0, "fa", stops}, {"a", 0, 0, "Fa", stops}, {"a", 1, 0, "Fa", exclusive(1, 0)},
		// Any byte can be looked for, also one of the keys, the byte 0 and those of no letter.
		{"f\x00\xff\rF", 0, 0, "f\x00", inclusive(0, 1)}, {"f\x00\xff\rF", 0, 0, "t\xff", inclusive(0, 1)}, {"f\x00\xff\rF", 4, 0, "F\r", exclusive(4, 3)}, {"f\x00\xff\rF", 4, 0, "Tf", exclusive(4, 1)}, {"f\x00\xff\rF", 0, 0, "ff", stops},
	})
}

func TestAgainByHand(t *testing.T) {
	const text = "xx-xxx-\nx"
	stops := refused(api.ErrMove)
	holdAgains(t, false, []try{
		{text, 0, 0, "fx", inclusive(0, 1)}, {text, 0, 2, "fx", inclusive(0, 3)}, {text, 6, 0, "Fx", exclusive(6, 5)}, {text, 6, 5, "Fx", exclusive(6, 0)}, {text, 6, 6, "Fx", stops},
		// The one byte beside at is passed over; if it is another one than Arg, nothing is lost by that.
		{text, 0, 0, "tx", inclusive(0, 2)}, {text, 0, 2, "tx", inclusive(0, 3)}, {text, 2, 0, "tx", inclusive(2, 3)}, {text, 1, 0, "tx", inclusive(1, 2)}, {text, 3, 0, "tx", inclusive(3, 4)}, {text, 4, 0, "tx", stops}, {text, 5, 0, "t-", stops}, {text, 4, 0, "t-", inclusive(4, 5)},
		{text, 6, 0, "Tx", exclusive(6, 5)}, {text, 6, 2, "Tx", exclusive(6, 4)}, {text, 4, 0, "Tx", exclusive(4, 2)}, {text, 3, 0, "Tx", exclusive(3, 2)}, {text, 2, 0, "Tx", exclusive(2, 1)}, {text, 1, 0, "Tx", stops}, {text, 0, 0, "Tx", stops},
		// At the line's ends what is passed over is not of the line, and nothing of the next line is taken for it.
		{text, 6, 0, "tx", stops}, {text, 7, 0, "tx", stops}, {text, 8, 0, "Tx", stops}, {text, 9, 0, "Tx", stops}, {text, 9, 0, "T-", stops}, {text, 7, 0, "T-", exclusive(7, 3)}, {text, 8, 0, "T-", stops}, {text, 9, 0, "Fx", exclusive(9, 8)},
		{"", 0, 0, "tx", stops}, {"", 0, 0, "Tx", stops},
	})
	holdAgains(t, true, []try{
		{text, 0, 0, "Fx", inclusive(0, 1)}, {text, 0, 2, "Fx", inclusive(0, 3)}, {text, 6, 0, "fx", exclusive(6, 5)}, {text, 6, 5, "fx", exclusive(6, 0)}, {text, 6, 0, "Fx", stops}, {text, 0, 0, "fx", stops},
		{text, 0, 0, "Tx", inclusive(0, 2)}, {text, 2, 2, "Tx", inclusive(2, 4)}, {text, 4, 0, "Tx", stops}, {text, 4, 0, "tx", exclusive(4, 2)}, {text, 6, 3, "tx", exclusive(6, 2)}, {text, 1, 0, "tx", stops},
		{text, 7, 0, "T-", stops}, {text, 7, 0, "t-", exclusive(7, 3)}, {text, 9, 0, "tx", stops},
	})
}

func TestWrongArguments(t *testing.T) {
	wrong := refused(api.ErrArg)
	for _, key := range "fFtT\x00x" {
		typed := string(key) + "a"
		var list []try
		for _, at := range []int{-1, len(example) + 1, math.MinInt, math.MaxInt} {
			list = append(list, try{example, at, 1, typed, wrong})
		}
		for _, count := range []int{-1, 10000, math.MinInt, math.MaxInt} {
			// What is wrong is told ahead of a motion that fails, and ahead of the key 0.
			list = append(list, try{example, 2, count, typed, wrong}, try{"", 0, count, typed, wrong}, try{example, -1, count, typed, wrong})
		}
		list = append(list, try{"", 1, 1, typed, wrong}, try{"", -1, 1, typed, wrong})
		holdMoves(t, list)
		holdAgains(t, false, list)
		holdAgains(t, true, list)
	}
}

// Each byte as a key: the four are taken, all others are refused; the key 0 says to Again that there was no find.
func TestEveryKey(t *testing.T) {
	for b := range 256 {
		f := api.Find{Key: byte(b), Arg: 'b'}
		want := refused(api.ErrArg)
		if isKey(f.Key) {
			continue
		}
		if a := move([]byte(example), 2, 1, f); a != want {
			t.Errorf("Move with the key %d: %v", b, a)
		}
		if b == 0 {
			want = refused(api.ErrMove)
		}
		for _, turned := range []bool{false, true} {
			if a := again([]byte(example), 2, 1, f, turned); a != want {
				t.Errorf("Again (%v) with the key %d: %v", turned, b, a)
			}
		}
	}
}

func counts(length int) []int {
	list := []int{math.MinInt, -1, 9998, 9999, 10000, math.MaxInt}
	for n := 0; n <= length+2; n++ {
		list = append(list, n)
	}
	return list
}

func placesOf(length int) []int {
	list := []int{math.MinInt, math.MaxInt}
	for at := -2; at <= length+2; at++ {
		list = append(list, at)
	}
	return list
}

// heldToWords: P9.1, and P9.2 of what is answered.
func heldToWords(t *testing.T, text []byte, args string, places, counts []int) {
	t.Helper()
	for _, key := range []byte(keys + "\x00xg") {
		for _, arg := range []byte(args) {
			f := api.Find{Key: key, Arg: arg}
			for _, at := range places {
				for _, count := range counts {
					a := move(text, at, count, f)
					if told := wordMove(text, at, count, f); a != told {
						t.Fatalf("Move(%q, %d, %d, %q) = %v; want %v", text, at, count, f, a, told)
					}
					inLine(t, text, at, a)
					for _, turned := range []bool{false, true} {
						a := again(text, at, count, f, turned)
						if told := wordAgain(text, at, count, f, turned); a != told {
							t.Fatalf("Again(%q, %d, %d, %q, %v) = %v; want %v", text, at, count, f, turned, a, told)
						}
						inLine(t, text, at, a)
					}
				}
			}
		}
	}
}

// inLine: P9.2 of From and To.
func inLine(t *testing.T, text []byte, at int, a answer) {
	if a.e != api.OK {
		return
	}
	from, to := a.target.From, a.target.To
	if from != at || to < 0 || to > len(text) || bytes.IndexByte(text[min(from, to):max(from, to)], '\n') >= 0 {
		t.Fatalf("%q at %d: from %d to %d", text, at, from, to)
	}
}

// oneBeside: P9.2 of t beside f, and of T beside F. It answers how many targets were held.
func oneBeside(t *testing.T, text []byte, args string, places, counts []int) int {
	t.Helper()
	held := 0
	for _, arg := range []byte(args) {
		for _, at := range places {
			for _, count := range counts {
				for _, c := range []struct {
					at, till byte
					less     int
				}{{'f', 't', 1}, {'F', 'T', -1}} {
					one, two := move(text, at, count, api.Find{Key: c.at, Arg: arg}), move(text, at, count, api.Find{Key: c.till, Arg: arg})
					if one.e == api.OK {
						held++
						one.target.To -= c.less
					}
					if one != two {
						t.Fatalf("%q at %d: %d %q %q leads to %v; want %v", text, at, count, c.till, arg, two, one)
					}
				}
			}
		}
	}
	return held
}

// thereAndBack: the first half of P9.3. It answers how many ways back were held.
func thereAndBack(t *testing.T, text []byte, places, counts []int) int {
	t.Helper()
	held := 0
	for _, at := range places {
		if at < 0 || at >= len(text) {
			continue
		}
		for _, count := range counts {
			there := move(text, at, count, api.Find{Key: 'f', Arg: text[at]})
			if there.e != api.OK {
				continue
			}
			held++
			p := there.target.To
			if back := move(text, p, count, api.Find{Key: 'F', Arg: text[at]}); back != exclusive(p, at) {
				t.Fatalf("%q: %d f leads from %d to %d, and F back to %v", text, count, at, p, back)
			}
		}
	}
	return held
}

// stepByStep: the second half of P9.3. It answers how often two motions were held against one, where the second leads on and where one of them fails.
func stepByStep(t *testing.T, text []byte, args string, places, counts []int) (led, failed int) {
	t.Helper()
	for _, key := range []byte("fF") {
		for _, arg := range []byte(args) {
			f := api.Find{Key: key, Arg: arg}
			for _, at := range places {
				for _, c := range counts {
					for _, d := range counts {
						if c+d > api.MaxCount {
							continue
						}
						one, want := move(text, at, c+d, f), move(text, at, c, f)
						if want.e == api.OK {
							want = move(text, want.target.To, d, f)
						}
						if want.e == api.OK {
							want.target.From = at
							led++
						} else {
							failed++
						}
						if one != want {
							t.Fatalf("%q at %d: %d %q and then %d lead to %v, with %d to %v", text, at, c, f, d, want, c+d, one)
						}
					}
				}
			}
		}
	}
	return led, failed
}

func heldWhole(t *testing.T, text []byte, args string) {
	t.Helper()
	places := placesOf(len(text))
	heldToWords(t, text, args, places, counts(len(text)))
	oneBeside(t, text, args, places, counts(len(text)))
	thereAndBack(t, text, places, counts(len(text)))
	stepByStep(t, text, args, places, []int{1, 2, 3, len(text) + 1, 9998})
}

// eachText calls do with every text of these bytes up to this length.
func eachText(alphabet string, length int, do func(text []byte)) {
	text := make([]byte, 0, length)
	var grow func()
	grow = func() {
		do(text)
		if len(text) == length {
			return
		}
		for i := 0; i < len(alphabet); i++ {
			text = append(text, alphabet[i])
			grow()
			text = text[:len(text)-1]
		}
	}
	grow()
}

func TestEveryShortText(t *testing.T) {
	eachText("ab\n", 5, func(text []byte) { heldWhole(t, text, "ac\n") })
	eachText("a\n", 7, func(text []byte) { heldWhole(t, text, "a\n") })
	eachText("ab", 6, func(text []byte) { heldWhole(t, text, "ab") })
	eachText("fF\n\x00\xff", 3, func(text []byte) { heldWhole(t, text, "fF\n\x00\xff") })
}

// Each byte is found just where it stands; the line end is not found at all.
func TestEveryByte(t *testing.T) {
	for b := range 256 {
		for _, about := range []string{"aa", "\x00\n"} {
			text := []byte{about[0], byte(b), about[1], byte(b)}
			heldWhole(t, text, string([]byte{byte(b), byte(b + 1), byte(b ^ 32), about[0]}))
		}
	}
}

// A picker is a plain row of numbers, the same in every run.
type picker uint64

func (p *picker) below(n int) int {
	*p = *p*6364136223846793005 + 1442695040888963407
	return int(uint64(*p)>>33) % n
}

func (p *picker) text(length int) []byte {
	text := make([]byte, length)
	for i := range text {
		switch p.below(12) {
		case 0:
			text[i] = '\n'
		case 1, 2:
			text[i] = byte(p.below(256))
		default:
			text[i] = "ab\x80F"[p.below(4)]
		}
	}
	return text
}

func TestPickedTexts(t *testing.T) {
	p := picker(9)
	for range 40 {
		heldWhole(t, p.text(p.below(40)), "ab\x80F\n\x00")
	}
}

// P9.2 and P9.3 say nothing where a motion is refused, so a text must leave enough that aren't.
func TestWhatIsHeldIsMuch(t *testing.T) {
	text := []byte("abcabcabcabc\nab\n\nabacadaba")
	places, few := placesOf(len(text)), []int{1, 2, 3, 4}
	if held := oneBeside(t, text, "abcd", places, few); held < 150 {
		t.Errorf("only %d targets were held for t and T", held)
	}
	if held := thereAndBack(t, text, places, few); held < 25 {
		t.Errorf("only %d ways back were held", held)
	}
	if led, failed := stepByStep(t, text, "abcd", places, few); led < 150 || failed < 150 {
		t.Errorf("only %d motions were held that lead on, and %d that fail", led, failed)
	}
}

// The greatest count is taken, and finds just the byte of its number.
func TestGreatestCount(t *testing.T) {
	text := []byte("\n" + string(bytes.Repeat([]byte("ab"), api.MaxCount)) + "\na")
	last := 2*api.MaxCount - 1
	holdMoves(t, []try{
		{string(text), 1, api.MaxCount - 1, "fa", inclusive(1, last)}, {string(text), 1, api.MaxCount, "fa", refused(api.ErrMove)},
		{string(text), 1, api.MaxCount, "fb", inclusive(1, last+1)}, {string(text), 1, api.MaxCount, "tb", inclusive(1, last)}, {string(text), 1, api.MaxCount + 1, "fb", refused(api.ErrArg)},
		{string(text), last + 2, api.MaxCount, "Fa", exclusive(last+2, 1)}, {string(text), last + 2, api.MaxCount, "Ta", exclusive(last+2, 2)}, {string(text), last, api.MaxCount, "Fa", refused(api.ErrMove)},
	})
	thereAndBack(t, text, []int{1, 2, 3, last, last + 1}, []int{1, 2, 9997, 9998, 9999})
	stepByStep(t, text, "ab", []int{0, 1, 2, last, last + 2}, []int{1, 2, 4999, 5000, 9997, 9998})
}

// A text may be longer than what a machine holds: seek has no limit of its own but that of the count.
func TestGreatTexts(t *testing.T) {
	p := picker(3)
	size := api.MaxText + 100
	places := []int{0, 9999, 10000, api.MaxText, size, size + 1}
	few := []int{0, 2, 9998, 9999, 10000}
	for _, text := range [][]byte{
		p.text(size), bytes.Repeat([]byte("\n"), size), bytes.Repeat([]byte("a"), size), bytes.Repeat([]byte("ba"), size/2),
	} {
		heldToWords(t, text, "ab", places, few)
	}
}

func TestNilIsTheEmptyText(t *testing.T) {
	heldWhole(t, nil, "a\n\x00")
	heldWhole(t, []byte{}, "a\n\x00")
}

func TestTextIsLeftAlone(t *testing.T) {
	for _, text := range []string{"", "a", "\n", example, "ab\nba\n", "aab"} {
		// What stands in the spare room is looked for too, and must not be found there.
		whole := append([]byte(text), "abspare\n\na\n"...)
		before := bytes.Clone(whole)
		heldWhole(t, whole[:len(text)], "abs\n")
		if !bytes.Equal(whole, before) {
			t.Errorf("%q: the text or its spare room is now %q", text, whole)
		}
	}
}
