package hunt_test

import (
	"bytes"
	"math"
	"slices"
	"strings"
	"sync"
	"testing"

	"quoin/api"
	"quoin/hunt"
	"quoin/lines"
	"quoin/pattern"
)

const example = "ab cab\nab"

// An answer is all that Next answers; so it can be held against tables.
type answer struct {
	target api.Target
	e      api.Errno
}

func next(t []byte, at, count int, p *pattern.Pattern, back bool) answer {
	target, e := hunt.Next(t, at, count, p, back)
	return answer{target, e}
}

func exclusive(from, to int) answer {
	return answer{api.Target{From: from, To: to, Kind: api.Exclusive}, api.OK}
}

func refused(e api.Errno) answer { return answer{e: e} }

func compiled(t *testing.T, p string) *pattern.Pattern {
	t.Helper()
	c, _, e := pattern.Compile([]byte(p))
	if e != api.OK {
		t.Fatalf("Compile(%.99q): %d", p, e)
	}
	return c
}

// A try is one search and what it must answer.
type try struct {
	text, pattern string
	at, count     int
	back          bool
	answer        answer
}

const (
	on   = false
	back = true
)

func holdNexts(t *testing.T, list []try) {
	t.Helper()
	for _, c := range list {
		if a := next([]byte(c.text), c.at, c.count, compiled(t, c.pattern), c.back); a != c.answer {
			t.Errorf("Next(%.99q, %d, %d, %.99q, %v) = %v; want %v", c.text, c.at, c.count, c.pattern, c.back, a, c.answer)
		}
	}
}

func TestExamples(t *testing.T) {
	nothing := refused(api.ErrHunt)
	holdNexts(t, []try{
		{example, "ab", 0, 1, on, exclusive(0, 4)}, {example, "ab", 0, 2, on, exclusive(0, 7)}, {example, "ab", 0, 3, on, exclusive(0, 0)}, {example, "ab", 0, 4, on, exclusive(0, 4)},
		{example, "ab", 0, 1, back, exclusive(0, 7)}, {example, "ab", 5, 1, on, exclusive(5, 7)}, {example, "ab", 5, 1, back, exclusive(5, 4)},
		{example, "$", 5, 1, on, exclusive(5, 8)}, {example, "$", 8, 1, on, exclusive(8, 5)},
		{example, "x", 0, 1, on, nothing}, {example, "x", 0, 1, back, nothing}, {example, "c", 3, 1, on, exclusive(3, 3)}, {example, "c", 3, 1, back, exclusive(3, 3)},
	})
	holdUnders(t, []ask{{example, 2, `\<cab\>`, api.OK}, {example, 7, `\<ab\>`, api.OK}, {" \t  ", 1, "", api.ErrHunt}})
}

// holdHits: from each place of a text the hits are found one behind the other, both ways round.
func holdHits(t *testing.T, text, p string, hits ...int) {
	t.Helper()
	var list []try
	for at := range len(text) + 1 {
		for _, way := range []bool{on, back} {
			w := walkOf(len(text), hits, at, 2*len(hits)+1, way)
			for count := range 2*len(hits) + 2 {
				list = append(list, try{text, p, at, count, way, w.next(count)})
			}
		}
	}
	holdNexts(t, list)
}

func TestHitsByHand(t *testing.T) {
	holdHits(t, example, "ab", 0, 4, 7)
	holdHits(t, example, "$", 5, 8)
	holdHits(t, example, "^", 0, 7)
	holdHits(t, example, "c", 3)
	holdHits(t, example, "x")
	// Matches that lie over one another are each one of their own.
	holdHits(t, "banana\nananas", "ana", 1, 3, 7, 9)
	holdHits(t, "aaa", "aa", 0, 1)
	holdHits(t, "aaa", "a.*", 0, 1, 2)
	// At the end of a line with bytes the hit is its last byte, also where that is one already: so it counts once.
	holdHits(t, "ab\nc", "", 0, 1, 3)
	holdHits(t, "ab\nc", "x*", 0, 1, 3)
	holdHits(t, "ab\nc", "b*$", 1, 3)
	holdHits(t, "ab\nc", `\>`, 1, 3)
	holdHits(t, "ab cd.", `\>`, 2, 5)
	holdHits(t, "ab\nc\n", "$", 1, 3, 5)
	// A line without bytes has one place, and that is its start.
	holdHits(t, "\n\na\n", "", 0, 1, 2, 4)
	holdHits(t, "\n\na\n", "^$", 0, 1, 4)
	holdHits(t, "\n\na\n", "$", 0, 1, 2, 4)
	holdHits(t, "\n\na\n", ".", 2)
	holdHits(t, "", "", 0)
	holdHits(t, "", "^$", 0)
	holdHits(t, "", ".")
	holdHits(t, "\n", ".")
	holdHits(t, "\n", "", 0, 1)
	// No match goes beyond its line, and no pattern meets a line end.
	holdHits(t, "a\nb", "a.b")
	holdHits(t, "a\nb", "a\nb")
	holdHits(t, "a\nb", "\n")
	holdHits(t, "a\nb", "[^x]", 0, 2)
	holdHits(t, "a\nb", "a[^x]*", 0)
	// Both ends of each line and of each word are those of the line, from wherever one looks.
	holdHits(t, "aa\nba\na", "^a", 0, 6)
	holdHits(t, "aa\nba\na", "a$", 1, 4, 6)
	holdHits(t, "aa\nba\na", `\<a`, 0, 6)
	holdHits(t, "aa a\na.a", `\<a\>`, 3, 5, 7)
	holdHits(t, "one two one", "one", 0, 8)
	holdHits(t, "\xff\x00\r\xff", "\xff", 0, 3)
	holdHits(t, "\xff\x00\r\xff", "[\x00\r]", 1, 2)
}

// A place where no cursor rests is one from which to look all the same.
func TestFromLineEnds(t *testing.T) {
	holdNexts(t, []try{
		{"ab\nab", "b", 2, 1, back, exclusive(2, 1)}, {"ab\nab", "b", 2, 1, on, exclusive(2, 4)}, {"ab\nab", "$", 2, 1, back, exclusive(2, 1)}, {"ab\nab", "$", 2, 1, on, exclusive(2, 4)},
		{"ab\nab", "$", 5, 1, back, exclusive(5, 4)}, {"ab\nab", "$", 5, 1, on, exclusive(5, 1)}, {"ab\nab", "$", 5, 2, back, exclusive(5, 1)},
		{"ab\nab", "$", 1, 1, back, exclusive(1, 4)}, {"ab\nab", "$", 1, 1, on, exclusive(1, 4)}, {"ab\nab", "$", 4, 1, back, exclusive(4, 1)}, {"ab\nab", "$", 3, 1, back, exclusive(3, 1)},
		{"ab\n", "$", 3, 1, back, exclusive(3, 1)}, {"ab\n", "$", 3, 1, on, exclusive(3, 1)}, {"ab\n", "$", 2, 1, on, exclusive(2, 3)}, {"ab\n", "^", 3, 1, on, exclusive(3, 0)},
	})
}

func TestWrongArguments(t *testing.T) {
	wrong := refused(api.ErrArg)
	for _, way := range []bool{on, back} {
		for _, p := range []string{"ab", "x", ""} {
			var list []try
			for _, at := range []int{-1, len(example) + 1, math.MinInt, math.MaxInt} {
				// What is wrong is told ahead of a pattern that is found nowhere.
				list = append(list, try{example, p, at, 1, way, wrong}, try{example, p, at, 0, way, wrong}, try{example, p, at, -1, way, wrong})
			}
			for _, count := range []int{-1, 10000, math.MinInt, math.MaxInt} {
				list = append(list, try{example, p, 0, count, way, wrong}, try{example, p, len(example), count, way, wrong}, try{"", p, 0, count, way, wrong})
			}
			holdNexts(t, append(list, try{"", p, 1, 1, way, wrong}, try{"", p, -1, 1, way, wrong}))
		}
		for _, text := range []string{"", "a", example} {
			for _, at := range []int{0, len(text), -1, len(text) + 1} {
				for _, count := range []int{0, 1, 9999, -1, 10000} {
					if a := next([]byte(text), at, count, nil, way); a != wrong {
						t.Errorf("no pattern in %q at %d, %d times: %v", text, at, count, a)
					}
				}
			}
		}
	}
	for _, text := range []string{"", "a", " ", example, strings.Repeat("x", 300)} {
		for _, at := range []int{-1, len(text) + 1, math.MinInt, math.MaxInt} {
			holdUnders(t, []ask{{text, at, "", api.ErrArg}})
		}
	}
}

// An ask is one word that is asked for, and what must be answered.
type ask struct {
	text string
	at   int
	told string
	e    api.Errno
}

func holdUnders(t *testing.T, list []ask) {
	t.Helper()
	for _, c := range list {
		if told, e := hunt.Under([]byte(c.text), c.at); string(told) != c.told || e != c.e {
			t.Errorf("Under(%.99q, %d) = %.99q, %d; want %.99q, %d", c.text, c.at, told, e, c.told, c.e)
		}
	}
}

func TestUnderByHand(t *testing.T) {
	const text = "  .Ab_9\x80, 7\n\n.;\nz-\xffz"
	holdUnders(t, []ask{
		// Ahead of a word, at its first byte, in it and at its last byte.
		{text, 0, "\\<Ab_9\x80\\>", api.OK}, {text, 2, "\\<Ab_9\x80\\>", api.OK}, {text, 3, "\\<Ab_9\x80\\>", api.OK}, {text, 5, "\\<Ab_9\x80\\>", api.OK}, {text, 7, "\\<Ab_9\x80\\>", api.OK},
		// Right behind it one doesn't stand in it.
		{text, 8, `\<7\>`, api.OK}, {text, 9, `\<7\>`, api.OK}, {text, 10, `\<7\>`, api.OK},
		// At the line's end, in a line without bytes, and in one without a word: nothing of another line is taken.
		{text, 11, "", api.ErrHunt}, {text, 12, "", api.ErrHunt}, {text, 13, "", api.ErrHunt}, {text, 14, "", api.ErrHunt}, {text, 15, "", api.ErrHunt},
		{text, 16, `\<z\>`, api.OK}, {text, 17, "\\<\xffz\\>", api.OK}, {text, 18, "\\<\xffz\\>", api.OK}, {text, 19, "\\<\xffz\\>", api.OK}, {text, 20, "", api.ErrHunt},
		{"", 0, "", api.ErrHunt}, {"\n", 0, "", api.ErrHunt}, {"\n", 1, "", api.ErrHunt}, {"\na", 0, "", api.ErrHunt}, {"a\n", 2, "", api.ErrHunt}, {"a\nb", 1, "", api.ErrHunt}, {"a\nb", 2, `\<b\>`, api.OK}, {"a", 0, `\<a\>`, api.OK}, {"a", 1, "", api.ErrHunt},
		{"a.b", 0, `\<a\>`, api.OK}, {"a.b", 1, `\<b\>`, api.OK}, {`\.*[]^$`, 0, "", api.ErrHunt}, {`^a$`, 0, `\<a\>`, api.OK}, {"a b", 1, `\<b\>`, api.OK}, {"\x00\r\x7fa", 0, `\<a\>`, api.OK}, {"a\rb", 0, `\<a\>`, api.OK},
	})
}

func TestLengthsOfWords(t *testing.T) {
	for _, n := range []int{1, 2, 250, 251, 252, 253, 254, 255, 256, 257, 1000, api.MaxText + 1} {
		word := strings.Repeat("w", n)
		told, e := `\<`+word+`\>`, api.OK
		if n > 252 {
			told, e = "", api.ErrLong
		}
		holdUnders(t, []ask{{word, 0, told, e}, {word, n / 2, told, e}, {word, n - 1, told, e}, {word, n, "", api.ErrHunt}, {"a\n. " + word + " b\n", 2, told, e}, {"a\n. " + word + " b\n", n + 3, told, e}, {"a\n. " + word + " b\n", n + 4, `\<b\>`, api.OK}})
	}
}

func placesOf(length int) []int {
	list := []int{math.MinInt, math.MaxInt}
	for at := -2; at <= length+2; at++ {
		list = append(list, at)
	}
	return list
}

func upTo(n int) []int {
	var list []int
	for i := 1; i <= n; i++ {
		list = append(list, i)
	}
	return list
}

func countsFor(length int) []int {
	return append(upTo(length+3), math.MinInt, -1, 0, 10000, math.MaxInt)
}

// A page is a text and a pattern, with all that is found out once about them.
type page struct {
	text    []byte
	pattern string
	p       *pattern.Pattern
	hits    []int
}

func pageOf(t *testing.T, text []byte, p string) page {
	c := compiled(t, p)
	return page{text, p, c, wordHits(text, c)}
}

// heldToWords: P12.1 of Next, and P12.3.
func heldToWords(t *testing.T, g page, places, counts []int) {
	most := 0
	for _, count := range counts {
		if count <= api.MaxCount {
			most = max(most, count)
		}
	}
	for _, at := range places {
		for _, way := range []bool{on, back} {
			w := walkOf(len(g.text), g.hits, at, most, way)
			for _, count := range counts {
				a := next(g.text, at, count, g.p, way)
				if told := w.next(count); a != told {
					t.Fatalf("Next(%.99q, %d, %d, %q, %v) = %v; want %v", g.text, at, count, g.pattern, way, a, told)
				}
				if a.e != api.OK {
					continue
				}
				if _, hit := slices.BinarySearch(g.hits, a.target.To); !hit || lines.Rest(g.text, a.target.To) != a.target.To {
					t.Fatalf("Next(%.99q, %d, %d, %q, %v) = %v: no hit", g.text, at, count, g.pattern, way, a)
				}
			}
		}
	}
}

// round: P12.2, of the counts up to most. It answers how often it was held.
func round(t *testing.T, g page, places []int, most int) int {
	held := 0
	for _, at := range places {
		for n := 1; n <= most && n+len(g.hits) <= api.MaxCount; n++ {
			for _, way := range []bool{on, back} {
				a := next(g.text, at, n, g.p, way)
				if a.e != api.OK {
					continue
				}
				held++
				if b := next(g.text, at, n+len(g.hits), g.p, way); b != a {
					t.Fatalf("%.99q, %q from %d (%v): %d times to %v, and %d hits further to %v", g.text, g.pattern, at, way, n, a, len(g.hits), b)
				}
			}
		}
	}
	return held
}

// thereAndBack: the rest of P12.2, from each hit, both ways.
func thereAndBack(t *testing.T, g page, counts []int) {
	for _, hit := range g.hits {
		for _, n := range counts {
			for _, way := range []bool{on, back} {
				there := next(g.text, hit, n, g.p, way)
				if again := next(g.text, there.target.To, n, g.p, !way); again != exclusive(there.target.To, hit) {
					t.Fatalf("%.99q, %q from %d, %d times (%v): to %v, and back to %v", g.text, g.pattern, hit, n, way, there, again)
				}
			}
		}
	}
}

func heldWhole(t *testing.T, text []byte, patterns []string) {
	for _, p := range patterns {
		g := pageOf(t, text, p)
		heldToWords(t, g, placesOf(len(text)), countsFor(len(text)))
		round(t, g, placesOf(len(text)), 3)
		thereAndBack(t, g, upTo(len(g.hits)+1))
	}
}

// heldUnders: P12.1 of Under, and P12.4, in the text's own lines and in others. It answers how many words were told.
func heldUnders(t *testing.T, text []byte) int {
	told := 0
	for _, at := range placesOf(len(text)) {
		u, e := hunt.Under(text, at)
		want, wantE := wordUnder(text, at)
		if string(u) != want || e != wantE {
			t.Fatalf("Under(%.99q, %d) = %.99q, %d; want %.99q, %d", text, at, u, e, want, wantE)
		}
		if e != api.OK {
			continue
		}
		told++
		word := want[2 : len(want)-2]
		p := compiled(t, string(u))
		for _, line := range append(strings.Split(string(text), "\n"), word, word+word, " "+word+".", word+" "+word, "_"+word, word+"9", word[1:], "."+word+"-"+word+"\xff") {
			if got, want := matchesOf(p, line), wholeWords(line, word); !slices.Equal(got, want) {
				t.Fatalf("%.99q matches in %.99q at %v; want %v", u, line, got, want)
			}
		}
	}
	return told
}

// eachText calls do with every text of these bytes up to this length.
func eachText(alphabet string, length int, do func(text []byte)) {
	text := make([]byte, 0, length)
	var grow func()
	grow = func() {
		do(text)
		if len(text) == length {
			return
		}
		for i := 0; i < len(alphabet); i++ {
			text = append(text, alphabet[i])
			grow()
			text = text[:len(text)-1]
		}
	}
	grow()
}

func patterns() []string {
	return []string{"", "^", "$", "^$", "a", "ab", "aa", "a*", "ba*", "a*b", ".", ".*", "..", ".$", "^.", "[^a]", "a$", "^a", "a.*b", "x", "\n", "a\nb"}
}

func wordPatterns() []string {
	return []string{`\<`, `\>`, `\<a`, `a\>`, `\<a\>`, `\>$`, `^\<`, " *", `\.*$`, `\>[^a]`, `[^a]*\<`}
}

func TestEveryShortText(t *testing.T) {
	eachText("ab\n", 5, func(text []byte) { heldWhole(t, text, patterns()) })
	eachText("a\n", 8, func(text []byte) { heldWhole(t, text, []string{"", "^", "$", "^$", "a", "a*", "aa", "a$", ".*"}) })
	eachText("a. \n", 4, func(text []byte) { heldWhole(t, text, wordPatterns()) })
}

func TestEveryShortTextOfWords(t *testing.T) {
	told := 0
	hold := func(text []byte) { told += heldUnders(t, text) }
	eachText("a. \n", 6, hold)
	eachText("ab \n", 5, hold)
	eachText("aZ9_\xff-\t\n", 3, hold)
	if told < 10000 {
		t.Errorf("only %d words were told", told)
	}
}

// Each byte alone, in a word, between words and behind a pattern's end.
func TestEveryByte(t *testing.T) {
	for b := range 256 {
		one := string([]byte{byte(b)})
		for _, text := range []string{one, "a" + one, one + "a", "a" + one + "a", " " + one + " ", "." + one + "\n" + one} {
			heldUnders(t, []byte(text))
			heldWhole(t, []byte(text), []string{string(pattern.Quote([]byte(one))), "a", `\<`, `\>`, "$", "[^a]"})
		}
	}
}

// A picker is a plain row of numbers, the same in every run.
type picker uint64

func (p *picker) below(n int) int {
	*p = *p*6364136223846793005 + 1442695040888963407
	return int(uint64(*p)>>33) % n
}

func (p *picker) text(length int) []byte {
	text := make([]byte, length)
	for i := range text {
		switch p.below(8) {
		case 0:
			text[i] = '\n'
		case 1:
			text[i] = " \t"[p.below(2)]
		case 2:
			text[i] = byte(p.below(256))
		default:
			text[i] = "ab.a"[p.below(4)]
		}
	}
	return text
}

// pattern is one that compiles; most often it is found somewhere.
func (p *picker) pattern() string {
	parts := []string{"a", "b", ".", "[ab]", "[^a]", " "}
	told := []string{"", "^", `\<`}[p.below(3)]
	for range p.below(4) {
		told += parts[p.below(len(parts))] + []string{"", "", "*"}[p.below(3)]
	}
	return told + []string{"", "$", `\>`}[p.below(3)]
}

func TestPickedTexts(t *testing.T) {
	p := picker(12)
	found := 0
	for range 150 {
		text := p.text(p.below(50))
		heldUnders(t, text)
		for range 4 {
			g := pageOf(t, text, p.pattern())
			heldToWords(t, g, placesOf(len(text)), countsFor(len(g.hits)))
			round(t, g, placesOf(len(text)), 2)
			thereAndBack(t, g, []int{1, 2, len(g.hits) + 1})
			if len(g.hits) > 1 {
				found++
			}
		}
	}
	if found < 200 {
		t.Errorf("only %d patterns were found more than once", found)
	}
}

// Lines that are long to the search which goes back by halves: with hits near and far, alone and many together.
func TestPickedLongLines(t *testing.T) {
	p := picker(120)
	for range 12 {
		text := bytes.Repeat([]byte("-"), 50+p.below(250))
		for range p.below(6) {
			at := p.below(len(text))
			for i := at; i < min(len(text), at+1+p.below(9)); i++ {
				text[i] = 'x'
			}
		}
		text[p.below(len(text))] = '\n'
		for _, told := range []string{"x", "xx", "x*-", "^-", "x$", "x-*$"} {
			g := pageOf(t, text, told)
			heldToWords(t, g, placesOf(len(text)), []int{1, 2, 7})
			thereAndBack(t, g, []int{1, 3})
		}
	}
}

// P12.2 where the counts are the greatest ones.
func TestGreatestCounts(t *testing.T) {
	for _, p := range []string{"", "a", "$", "a$", "^", "ab*", "x"} {
		g := pageOf(t, []byte("ab\n\nba ab\na"), p)
		heldToWords(t, g, placesOf(len(g.text)), []int{5000, 9998, 9999, 10000})
		thereAndBack(t, g, []int{5000, 9998, 9999})
		for _, at := range []int{0, 3, len(g.text)} {
			held := round(t, g, []int{at}, api.MaxCount)
			if len(g.hits) > 0 && held != 2*(api.MaxCount-len(g.hits)) {
				t.Errorf("%q from %d: held %d times", p, at, held)
			}
		}
	}
}

// A text may be longer than what a machine holds: hunt has no limit of its own but those of the count and of a pattern.
func TestGreatTexts(t *testing.T) {
	p := picker(7)
	size := api.MaxText + 100
	places := []int{0, 9999, api.MaxText, size, size + 1}
	counts := []int{0, 2, 9999, 10000}
	few := bytes.Repeat([]byte("-"), size)
	few[20000], few[20001], few[60000] = 'a', 'a', 'a'
	fewLines := bytes.Repeat([]byte("-\n"), size/2)
	fewLines[20000], fewLines[60000] = 'a', 'a'
	for _, text := range [][]byte{
		p.text(size), few, fewLines, bytes.Repeat([]byte("a"), size), bytes.Repeat([]byte("\n"), size), bytes.Repeat([]byte("a\n"), size/2), bytes.Repeat([]byte("a line of some words, ab and ba\n"), size/32), bytes.Repeat([]byte("-"), size),
	} {
		for _, told := range []string{"a", "", "$", "b*", "^a", `\<a`, "."} {
			heldToWords(t, pageOf(t, text, told), places, counts)
		}
		for _, at := range places {
			u, e := hunt.Under(text, at)
			if want, wantE := wordUnder(text, at); string(u) != want || e != wantE {
				t.Errorf("Under(%.99q, %d) = %.99q, %d; want %.99q, %d", text, at, u, e, want, wantE)
			}
		}
	}
}

// A pattern may be as long as patterns go, and lead to the end of a great line.
func TestGreatPatterns(t *testing.T) {
	long := strings.Repeat("a", api.MaxPattern)
	text := strings.Repeat("a", 300) + "\n" + strings.Repeat("b", 1000) + "a\n" + long
	holdNexts(t, []try{
		{text, long, 0, 44, on, exclusive(0, 44)}, {text, long, 0, 45, on, exclusive(0, 1303)}, {text, long, 0, 46, on, exclusive(0, 0)}, {text, long, 0, 1, back, exclusive(0, 1303)}, {text, long, 0, 2, back, exclusive(0, 44)},
		{text, "b*a$", 0, 1, on, exclusive(0, 299)}, {text, "b*a$", 0, 2, on, exclusive(0, 301)}, {text, "b*a$", 0, 1002, on, exclusive(0, 1301)}, {text, "b*a$", 0, 1003, on, exclusive(0, 1558)}, {text, "b*a$", 0, 1004, on, exclusive(0, 299)}, {text, "b*a$", 500, 1, on, exclusive(500, 501)}, {text, "b*a$", 500, 1, back, exclusive(500, 499)}, {text, "b*a$", 301, 1, back, exclusive(301, 299)},
		{text, "bb*$", 0, 1, on, refused(api.ErrHunt)}, {text, "bb*$", 1000, 9999, back, refused(api.ErrHunt)},
	})
}

func TestNilIsTheEmptyText(t *testing.T) {
	heldWhole(t, nil, patterns())
	heldWhole(t, []byte{}, patterns())
	heldUnders(t, nil)
	heldUnders(t, []byte{})
}

func TestTextIsLeftAlone(t *testing.T) {
	for _, text := range []string{"", "a", "\n", "a ", "ab\n", example, " .", "a$"} {
		// What stands in the spare room must not be taken for the text's.
		whole := append([]byte(text), "aab ab\nab a"...)
		before := bytes.Clone(whole)
		heldWhole(t, whole[:len(text)], append(patterns(), wordPatterns()...))
		heldUnders(t, whole[:len(text)])
		if !bytes.Equal(whole, before) {
			t.Errorf("%q: the text or its spare room is now %q", text, whole)
		}
	}
}

func TestAnswersAreNew(t *testing.T) {
	text := []byte("word")
	one, _ := hunt.Under(text, 0)
	two, _ := hunt.Under(text, 0)
	for i := range one {
		one[i] = 'x'
	}
	_ = append(one[:2], "yyyyyyyy"...)
	if three, _ := hunt.Under(text, 0); string(text) != "word" || string(two) != `\<word\>` || string(three) != `\<word\>` {
		t.Errorf("a changed answer changes %q, %q or %q", text, two, three)
	}
	kept, _ := hunt.Under(text, 0)
	text[0] = 'l'
	if string(kept) != `\<word\>` {
		t.Errorf("a changed text changes %q", kept)
	}
}

// Nothing is kept from one text to the next, and one pattern serves many at once.
func TestNothingIsKept(t *testing.T) {
	p := compiled(t, "a*b")
	texts := []string{"ab\nb", "xxab", "", "b\nb\nb", "a"}
	ask := func(i int) answer {
		text := texts[i%len(texts)]
		return next([]byte(text), len(text)/2, 1+i%7, p, i%2 == 0)
	}
	want := make([]answer, 400)
	for i := range want {
		want[i] = ask(i)
	}
	for i := len(want) - 1; i >= 0; i-- {
		if a := ask(i); a != want[i] {
			t.Fatalf("number %d: %v, and now %v", i, want[i], a)
		}
	}
	got := make([]answer, len(want))
	var all sync.WaitGroup
	for i := range got {
		all.Go(func() { got[i] = ask(i) })
	}
	all.Wait()
	if !slices.Equal(got, want) {
		t.Error("many at once answer otherwise than one behind the other")
	}
}
