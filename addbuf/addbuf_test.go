package addbuf_test

import (
	"bytes"
	"math"
	"math/big"
	"strings"
	"testing"

	"quoin/addbuf"
	"quoin/api"
)

// plain is what a buffer is by the chapter's words, reckoned the slow way.
type plain struct {
	text [2][]byte
}

// isSound reckons in whole numbers without bounds.
func isSound(s api.Span) bool {
	end := new(big.Int).Add(big.NewInt(int64(s.Off)), big.NewInt(int64(s.Len)))
	limit := new(big.Int).Lsh(big.NewInt(1), 62)
	return (s.Src == 0 || s.Src == 1) && s.Off >= 0 && s.Len >= 0 && end.Cmp(limit) <= 0
}

func (p plain) holds(s api.Span) bool {
	return isSound(s) && s.Off+s.Len <= len(p.text[s.Src])
}

func (p plain) size(src int) int {
	if src == 0 || src == 1 {
		return len(p.text[src])
	}
	return 0
}

func (p plain) read(s api.Span) ([]byte, api.Errno) {
	if !p.holds(s) {
		return nil, api.ErrSpan
	}
	return p.text[s.Src][s.Off : s.Off+s.Len], api.OK
}

func (p plain) byteAt(s api.Span, i int) (byte, api.Errno) {
	text, e := p.read(s)
	if e != api.OK {
		return 0, e
	}
	if i < 0 || i >= len(text) {
		return 0, api.ErrArg
	}
	return text[i], api.OK
}

// lineEnds are the places of the line ends in a span that is held.
func (p plain) lineEnds(s api.Span) []int {
	var places []int
	text, _ := p.read(s)
	for at, c := range text {
		if c == '\n' {
			places = append(places, at)
		}
	}
	return places
}

func (p plain) lineAt(s api.Span, n int) (int, api.Errno) {
	if !p.holds(s) {
		return 0, api.ErrSpan
	}
	places := p.lineEnds(s)
	if n < 0 || n >= len(places) {
		return 0, api.ErrArg
	}
	return places[n], api.OK
}

func span(src, off, length int) api.Span {
	return api.Span{Src: src, Off: off, Len: length}
}

// edgeSpans are spans with numbers at the ends of their type and about 2^62.
func edgeSpans() []api.Span {
	numbers := []int{math.MinInt, math.MinInt + 1, -1, 0, 1, 2, 1<<62 - 1, 1 << 62, 1<<62 + 1, math.MaxInt - 1, math.MaxInt}
	var list []api.Span
	for _, src := range []int{math.MinInt, -1, 0, 1, 2, math.MaxInt} {
		for _, off := range numbers {
			for _, length := range numbers {
				list = append(list, span(src, off, length))
			}
		}
	}
	return list
}

// nearSpans are all spans in a buffer of that size and a little past it.
func nearSpans(size int) []api.Span {
	var list []api.Span
	for src := -1; src <= 2; src++ {
		for off := -1; off <= size+1; off++ {
			for length := -1; length <= size+1; length++ {
				list = append(list, span(src, off, length))
			}
		}
	}
	return list
}

func compareSpan(t *testing.T, b *addbuf.Buffer, p plain, s api.Span) {
	t.Helper()
	if got := b.Holds(s); got != p.holds(s) {
		t.Errorf("Holds(%v) = %v", s, got)
	}
	want, wantE := p.read(s)
	if got, e := b.Read(s); !bytes.Equal(got, want) || e != wantE {
		t.Errorf("Read(%v) = %q, %d; want %q, %d", s, got, e, want, wantE)
	}
	if got, e := b.Lines(s); got != len(p.lineEnds(s)) || e != wantE {
		t.Errorf("Lines(%v) = %d, %d", s, got, e)
	}
	for _, i := range []int{math.MinInt, -1, 0, 1, 2, 3, s.Len - 1, s.Len, s.Len + 1, math.MaxInt} {
		wantByte, wantE := p.byteAt(s, i)
		if got, e := b.Byte(s, i); got != wantByte || e != wantE {
			t.Errorf("Byte(%v, %d) = %d, %d; want %d, %d", s, i, got, e, wantByte, wantE)
		}
		wantAt, wantE := p.lineAt(s, i)
		if got, e := b.LineAt(s, i); got != wantAt || e != wantE {
			t.Errorf("LineAt(%v, %d) = %d, %d; want %d, %d", s, i, got, e, wantAt, wantE)
		}
	}
}

func compareSizes(t *testing.T, b *addbuf.Buffer, p plain) {
	t.Helper()
	for _, src := range []int{math.MinInt, -1, 0, 1, 2, 7, math.MaxInt} {
		if got := b.Size(src); got != p.size(src) {
			t.Errorf("Size(%d) = %d; want %d", src, got, p.size(src))
		}
	}
}

// compare asks b all that can be asked of small spans.
func compare(t *testing.T, b *addbuf.Buffer, p plain) {
	t.Helper()
	compareSizes(t, b, p)
	for _, s := range nearSpans(max(len(p.text[0]), len(p.text[1]))) {
		compareSpan(t, b, p, s)
	}
}

// P1.1: the chapter's examples.
func TestExamples(t *testing.T) {
	b := addbuf.New([]byte("a\nb"))
	if got := b.Add([]byte("cd")); got != span(1, 0, 2) {
		t.Error("Add(cd)", got)
	}
	if got := b.Add([]byte("\n")); got != span(1, 2, 1) {
		t.Error("Add(10)", got)
	}
	for _, c := range []struct {
		s    api.Span
		want string
		e    api.Errno
	}{
		{span(0, 0, 3), "a\nb", api.OK},
		{span(1, 1, 2), "d\n", api.OK},
		{span(0, 2, 2), "", api.ErrSpan},
		{span(2, 0, 0), "", api.ErrSpan},
		{span(0, -1, 1), "", api.ErrSpan},
		{span(0, 3, 0), "", api.OK},
	} {
		if got, e := b.Read(c.s); string(got) != c.want || e != c.e {
			t.Errorf("Read(%v) = %q, %d", c.s, got, e)
		}
	}
	if c, e := b.Byte(span(0, 1, 2), 1); c != 'b' || e != api.OK {
		t.Error("Byte 1", c, e)
	}
	if c, e := b.Byte(span(0, 1, 2), 2); c != 0 || e != api.ErrArg {
		t.Error("Byte 2", c, e)
	}
	if n, e := b.Lines(span(0, 0, 3)); n != 1 || e != api.OK {
		t.Error("Lines", n, e)
	}
	if at, e := b.LineAt(span(0, 0, 3), 0); at != 1 || e != api.OK {
		t.Error("LineAt 0", at, e)
	}
	if at, e := b.LineAt(span(0, 0, 3), 1); at != 0 || e != api.ErrArg {
		t.Error("LineAt 1", at, e)
	}
	if b.Size(0) != 3 || b.Size(1) != 3 || b.Size(7) != 0 {
		t.Error("Size", b.Size(0), b.Size(1), b.Size(7))
	}
}

// P1.1: each answer, behind each call that adds, is the plain buffer's.
func TestEveryAnswer(t *testing.T) {
	for _, original := range []string{"", "\n", "ab", "a\n\nb\n", "\x00\xff\r\n\t"} {
		b := addbuf.New([]byte(original))
		p := plain{text: [2][]byte{[]byte(original), nil}}
		compare(t, b, p)
		for _, more := range []string{"x", "", "\n", "\ny\n", "\xff\x00", "\n\n"} {
			want := span(1, len(p.text[1]), len(more))
			if got := b.Add([]byte(more)); got != want {
				t.Errorf("Add(%q) = %v; want %v", more, got, want)
			}
			p.text[1] = append(p.text[1], more...)
			compare(t, b, p)
		}
	}
}

// P1.1 and rule 1: numbers at the ends of their type.
func TestEdgesOfNumbers(t *testing.T) {
	b := addbuf.New([]byte("a\n"))
	b.Add([]byte("\nb"))
	p := plain{text: [2][]byte{[]byte("a\n"), []byte("\nb")}}
	for _, s := range edgeSpans() {
		compareSpan(t, b, p, s)
	}
}

// P1.1: what a span stands for never changes, whatever is added behind.
func TestSpansStay(t *testing.T) {
	b := addbuf.New([]byte("first\nsecond"))
	var spans []api.Span
	var texts []string
	for i := range 300 {
		text := bytes.Repeat([]byte{byte(i), '\n'}, i%7)
		spans = append(spans, b.Add(text))
		texts = append(texts, string(text))
	}
	for i, s := range spans {
		if got, e := b.Read(s); string(got) != texts[i] || e != api.OK {
			t.Fatalf("Read(%v) = %q, %d; want %q", s, got, e, texts[i])
		}
		if n, e := b.Lines(s); n != strings.Count(texts[i], "\n") || e != api.OK {
			t.Fatalf("Lines(%v) = %d, %d", s, n, e)
		}
	}
	if got, e := b.Read(span(0, 0, 12)); string(got) != "first\nsecond" || e != api.OK {
		t.Fatalf("the original text is %q, %d", got, e)
	}
}

// P1.1: a nil buffer has nothing and takes nothing in.
func TestNilBuffer(t *testing.T) {
	var b *addbuf.Buffer
	compare(t, b, plain{})
	for _, more := range []string{"", "x\n"} {
		if got := b.Add([]byte(more)); got != (api.Span{}) {
			t.Errorf("Add(%q) = %v", more, got)
		}
	}
	compare(t, b, plain{})
	for _, s := range edgeSpans() {
		compareSpan(t, b, plain{}, s)
	}
}

// Rule 2: a span that isn't held is told ahead of a number out of range.
func TestOrderOfErrors(t *testing.T) {
	b := addbuf.New([]byte("a\nb"))
	for _, s := range []api.Span{span(0, 0, 4), span(0, 4, 0), span(1, 0, 1), span(2, 0, 1), span(0, 0, -1)} {
		for _, i := range []int{math.MinInt, -1, 0, 9, math.MaxInt} {
			if _, e := b.Byte(s, i); e != api.ErrSpan {
				t.Errorf("Byte(%v, %d): %d", s, i, e)
			}
			if _, e := b.LineAt(s, i); e != api.ErrSpan {
				t.Errorf("LineAt(%v, %d): %d", s, i, e)
			}
		}
	}
	if _, _, e := addbuf.Cut(span(0, -1, 1), 5); e != api.ErrSpan {
		t.Error("Cut", e)
	}
}

// Rule 4: nil and empty lists are the same.
func TestEmptyLists(t *testing.T) {
	for _, empty := range [][]byte{nil, {}} {
		b := addbuf.New(empty)
		compare(t, b, plain{})
		if got := b.Add(empty); got != span(1, 0, 0) {
			t.Error("Add", got)
		}
		b.Add([]byte("x"))
		if got := b.Add(empty); got != span(1, 1, 0) {
			t.Error("Add", got)
		}
	}
}

// Rule 5: what is handed in is neither changed, its spare room included, nor kept.
func TestHandedIn(t *testing.T) {
	room := []byte("original|spare")
	more := []byte("added|spare")
	b := addbuf.New(room[:8])
	b.Add(more[:5])
	b.Add([]byte("!!!"))
	if string(room) != "original|spare" || string(more) != "added|spare" {
		t.Errorf("changed: %q, %q", room, more)
	}
	copy(room, "XXXXXXXX")
	copy(more, "YYYYY")
	compare(t, b, plain{text: [2][]byte{[]byte("original"), []byte("added!!!")}})
}

// Rule 5: an answer shares no memory with the buffer or with another answer.
func TestAnswersAreNewMemory(t *testing.T) {
	b := addbuf.New([]byte("a\nb"))
	b.Add([]byte("cdef"))
	p := plain{text: [2][]byte{[]byte("a\nb"), []byte("cdef")}}
	for _, s := range []api.Span{span(0, 0, 3), span(0, 0, 1), span(0, 0, 0), span(1, 1, 2), span(1, 0, 4), span(1, 4, 0)} {
		one, _ := b.Read(s)
		other, _ := b.Read(s)
		for i := range one {
			one[i] = '#'
		}
		_ = append(one[:len(one):cap(one)], "####"...)
		want, _ := p.read(s)
		if !bytes.Equal(other, want) {
			t.Errorf("two answers of Read(%v) share memory: %q", s, other)
		}
	}
	compare(t, b, p)
}

// An answer's spare room must not be where the next bytes are added.
func TestAnswersAndAdding(t *testing.T) {
	b := addbuf.New(nil)
	s := b.Add([]byte("abc"))
	answer, _ := b.Read(s)
	b.Add([]byte("def"))
	_ = append(answer, "XYZ"...)
	if got, _ := b.Read(span(1, 0, 6)); string(got) != "abcdef" {
		t.Errorf("the added bytes are %q", got)
	}
	if string(answer) != "abc" {
		t.Errorf("an older answer is %q", answer)
	}
}

// Rule 6: buffers know nothing of each other.
func TestBuffersApart(t *testing.T) {
	text := []byte("same")
	one, other := addbuf.New(text), addbuf.New(text)
	one.Add([]byte("1"))
	if got := other.Add([]byte("22")); got != span(1, 0, 2) {
		t.Error("Add", got)
	}
	compare(t, one, plain{text: [2][]byte{text, []byte("1")}})
	compare(t, other, plain{text: [2][]byte{text, []byte("22")}})
}

func wantJoin(a, b api.Span) (api.Span, bool) {
	if !isSound(a) || !isSound(b) || a.Src != b.Src || b.Off != a.Off+a.Len {
		return api.Span{}, false
	}
	joined := span(a.Src, a.Off, a.Len+b.Len)
	if !isSound(joined) {
		return api.Span{}, false
	}
	return joined, true
}

func wantCut(s api.Span, at int) (api.Span, api.Span, api.Errno) {
	if !isSound(s) {
		return api.Span{}, api.Span{}, api.ErrSpan
	}
	if at < 0 || at > s.Len {
		return api.Span{}, api.Span{}, api.ErrArg
	}
	return span(s.Src, s.Off, at), span(s.Src, s.Off+at, s.Len-at), api.OK
}

// P1.2: Joins of any two spans.
func TestJoins(t *testing.T) {
	for _, list := range [][]api.Span{nearSpans(2), edgeSpans()} {
		for _, a := range list {
			for _, b := range list {
				want, wantOK := wantJoin(a, b)
				if got, ok := addbuf.Joins(a, b); got != want || ok != wantOK {
					t.Errorf("Joins(%v, %v) = %v, %v; want %v, %v", a, b, got, ok, want, wantOK)
				}
			}
		}
	}
}

// P1.2: the chapter's examples of Joins and those at the bound of sound spans.
func TestJoinsByHand(t *testing.T) {
	const top = 1 << 62
	for _, c := range []struct {
		a, b, want api.Span
		ok         bool
	}{
		{span(1, 0, 2), span(1, 2, 1), span(1, 0, 3), true},
		{span(1, 2, 1), span(1, 0, 2), api.Span{}, false},
		{span(0, 0, 2), span(1, 2, 1), api.Span{}, false},
		{span(0, 0, 2), span(0, 3, 1), api.Span{}, false},
		{span(0, 0, 2), span(0, 1, 1), api.Span{}, false},
		{span(0, 5, 0), span(0, 5, 0), span(0, 5, 0), true},
		{span(0, 0, top), span(0, top, 0), span(0, 0, top), true},
		{span(0, 0, top-1), span(0, top-1, 1), span(0, 0, top), true},
		{span(0, 0, top-1), span(0, top-1, 2), api.Span{}, false},
		{span(2, 0, 1), span(2, 1, 1), api.Span{}, false},
		{span(0, -2, 1), span(0, -1, 1), api.Span{}, false},
	} {
		if got, ok := addbuf.Joins(c.a, c.b); got != c.want || ok != c.ok {
			t.Errorf("Joins(%v, %v) = %v, %v", c.a, c.b, got, ok)
		}
	}
}

// P1.2: Cut of any span, and Joins puts together again what it answers.
func TestCut(t *testing.T) {
	for _, s := range append(nearSpans(3), edgeSpans()...) {
		for _, at := range []int{math.MinInt, -1, 0, 1, 2, s.Len / 2, s.Len - 1, s.Len, s.Len + 1, math.MaxInt} {
			wantA, wantB, wantE := wantCut(s, at)
			a, b, e := addbuf.Cut(s, at)
			if a != wantA || b != wantB || e != wantE {
				t.Errorf("Cut(%v, %d) = %v, %v, %d; want %v, %v, %d", s, at, a, b, e, wantA, wantB, wantE)
			}
			if e != api.OK {
				continue
			}
			if joined, ok := addbuf.Joins(a, b); joined != s || !ok {
				t.Errorf("Cut(%v, %d), joined: %v, %v", s, at, joined, ok)
			}
		}
	}
}

// P1.2: the chapter's examples of Cut and those at the bound of sound spans.
func TestCutByHand(t *testing.T) {
	const top = 1 << 62
	for _, c := range []struct {
		s    api.Span
		at   int
		a, b api.Span
		e    api.Errno
	}{
		{span(0, 1, 2), 0, span(0, 1, 0), span(0, 1, 2), api.OK},
		{span(0, 1, 2), 1, span(0, 1, 1), span(0, 2, 1), api.OK},
		{span(1, 1, 2), 2, span(1, 1, 2), span(1, 3, 0), api.OK},
		{span(0, 1, 2), 3, api.Span{}, api.Span{}, api.ErrArg},
		{span(0, 1, 2), -1, api.Span{}, api.Span{}, api.ErrArg},
		{span(0, 1, top-1), top - 1, span(0, 1, top-1), span(0, top, 0), api.OK},
		{span(0, 1, top), 0, api.Span{}, api.Span{}, api.ErrSpan},
		{span(2, 0, 1), 0, api.Span{}, api.Span{}, api.ErrSpan},
	} {
		if a, b, e := addbuf.Cut(c.s, c.at); a != c.a || b != c.b || e != c.e {
			t.Errorf("Cut(%v, %d) = %v, %v, %d", c.s, c.at, a, b, e)
		}
	}
}

// P1.2: the bytes of a joined span are those of the one and then the other.
func TestBytesOfJoined(t *testing.T) {
	b := addbuf.New([]byte("ab\nc"))
	b.Add([]byte("de"))
	b.Add([]byte("\nfg"))
	for _, one := range nearSpans(5) {
		for _, other := range nearSpans(5) {
			joined, ok := addbuf.Joins(one, other)
			if !ok || !b.Holds(joined) {
				continue
			}
			first, e1 := b.Read(one)
			rest, e2 := b.Read(other)
			both, e3 := b.Read(joined)
			if e1 != api.OK || e2 != api.OK || e3 != api.OK || string(both) != string(first)+string(rest) {
				t.Errorf("%v and %v: %q and %q; joined %q", one, other, first, rest, both)
			}
		}
	}
}
