package extent_test

import (
	"bytes"
	"math"
	"slices"
	"strings"
	"testing"

	"quoin/api"
	"quoin/extent"
	"quoin/lines"
)

const example = "ab\n  c"

// A stretch is all that Of and Whole answer, and taken all that Take does; so they can be held against tables.
type stretch struct {
	r api.Range
	e api.Errno
}

type taken struct {
	set, lines bool
	text       string
	e          api.Errno
}

func of(t []byte, from, to, kind int, op string) stretch {
	r, e := extent.Of(t, api.Target{From: from, To: to, Kind: kind}, op)
	return stretch{r, e}
}

func whole(t []byte, from, to int) stretch {
	r, e := extent.Whole(t, from, to)
	return stretch{r, e}
}

func take(t []byte, r api.Range) taken {
	reg, e := extent.Take(t, r)
	return taken{reg.Set, reg.Lines, string(reg.Text), e}
}

func plain(from, to int) stretch { return stretch{api.Range{From: from, To: to}, api.OK} }

func wholeLines(from, to int) stretch {
	return stretch{api.Range{From: from, To: to, Lines: true}, api.OK}
}

func leadLines(from, to int) stretch {
	return stretch{api.Range{From: from, To: to, Lines: true, Lead: true}, api.OK}
}

func refusedStretch() stretch { return stretch{e: api.ErrArg} }

func plainTaken(text string) taken { return taken{set: true, text: text} }
func linesTaken(text string) taken { return taken{set: true, lines: true, text: text} }
func refusedTaken() taken          { return taken{e: api.ErrArg} }

func TestWholeByHand(t *testing.T) {
	wrong := refusedStretch()
	for _, c := range []struct {
		text     string
		from, to int
		want     stretch
	}{
		{example, 0, 0, wholeLines(0, 3)}, {example, 1, 1, leadLines(2, 6)}, {example, 0, 1, wholeLines(0, 6)},
		{example, 1, 0, wrong}, {example, 0, 2, wrong}, {example, 2, 2, wrong}, {example, -1, 0, wrong}, {example, -1, -1, wrong}, {example, 2, 1, wrong}, {example, 0, -1, wrong}, {example, -1, 2, wrong},
		{example, math.MinInt, 1, wrong}, {example, 0, math.MaxInt, wrong}, {example, math.MinInt, math.MaxInt, wrong}, {example, math.MaxInt, math.MinInt, wrong}, {example, math.MaxInt, math.MaxInt, wrong}, {example, 1 << 32, 1 << 32, wrong},
		{"", 0, 0, wholeLines(0, 0)}, {"", 0, 1, wrong}, {"", 1, 1, wrong}, {"", -1, 0, wrong}, {"a", 0, 0, wholeLines(0, 1)},
		// The line behind the text's last line end is a line, and there is one ahead of it.
		{"\n", 0, 0, wholeLines(0, 1)}, {"\n", 1, 1, leadLines(0, 1)}, {"\n", 0, 1, wholeLines(0, 1)},
		{"a\n", 0, 0, wholeLines(0, 2)}, {"a\n", 1, 1, leadLines(1, 2)}, {"a\n", 0, 1, wholeLines(0, 2)}, {"a\n", 2, 2, wrong},
		{"\na", 0, 0, wholeLines(0, 1)}, {"\na", 1, 1, leadLines(0, 2)},
		{"a\nbc\n\nd", 1, 1, wholeLines(2, 5)}, {"a\nbc\n\nd", 1, 2, wholeLines(2, 6)}, {"a\nbc\n\nd", 2, 2, wholeLines(5, 6)}, {"a\nbc\n\nd", 2, 3, leadLines(4, 7)}, {"a\nbc\n\nd", 3, 3, leadLines(5, 7)}, {"a\nbc\n\nd", 1, 3, leadLines(1, 7)}, {"a\nbc\n\nd", 0, 3, wholeLines(0, 7)}, {"a\nbc\n\nd", 2, 1, wrong}, {"a\nbc\n\nd", 0, 4, wrong},
		// A carriage return ends no line.
		{"a\rb", 0, 0, wholeLines(0, 3)}, {"a\rb", 1, 1, wrong},
	} {
		if got := whole([]byte(c.text), c.from, c.to); got != c.want {
			t.Errorf("Whole(%q, %d, %d) = %+v; want %+v", c.text, c.from, c.to, got, c.want)
		}
	}
}

// An asked is a call of Of and what it must answer.
type asked struct {
	text           string
	from, to, kind int
	op             string
	want           stretch
}

func holdOf(t *testing.T, list []asked) {
	t.Helper()
	for _, c := range list {
		if got := of([]byte(c.text), c.from, c.to, c.kind, c.op); got != c.want {
			t.Errorf("Of(%q, %d to %d of kind %d, %q) = %+v; want %+v", c.text, c.from, c.to, c.kind, c.op, got, c.want)
		}
	}
}

func TestOfExamples(t *testing.T) {
	holdOf(t, []asked{
		{example, 1, 3, api.Exclusive, "d", plain(1, 2)}, {example, 0, 3, api.Exclusive, "d", wholeLines(0, 3)}, {example, 5, 3, api.Exclusive, "d", plain(3, 5)},
		{example, 1, 5, api.Inclusive, "y", plain(1, 6)}, {example, 0, 2, api.Inclusive, "y", plain(0, 2)}, {example, 5, 6, api.Inclusive, "d", plain(5, 6)},
		{example, 1, 4, api.Inclusive, ">", wholeLines(0, 6)},
		{example, 0, 7, api.Exclusive, "d", refusedStretch()}, {example, 0, 1, api.Exclusive, "x", refusedStretch()},
	})
}

func TestExclusiveByHand(t *testing.T) {
	const kind = api.Exclusive
	holdOf(t, []asked{
		{"", 0, 0, kind, "d", plain(0, 0)}, {"ab", 0, 2, kind, "c", plain(0, 2)}, {"ab", 1, 1, kind, "y", plain(1, 1)}, {"ab", 2, 0, kind, "gu", plain(0, 2)},
		// The start of a's own line is no such start, nor is the text's beginning.
		{"a\nb", 2, 2, kind, "d", plain(2, 2)}, {"a\nb", 0, 0, kind, "d", plain(0, 0)}, {"a\nbc", 4, 2, kind, "d", plain(2, 4)}, {"\n\n", 1, 1, kind, "d", plain(1, 1)}, {"\n\n", 2, 2, kind, "d", plain(2, 2)},
		// e may be a itself.
		{"ab\nc", 2, 3, kind, "d", plain(2, 2)}, {"\nc", 0, 1, kind, "d", wholeLines(0, 1)}, {" \nc", 1, 2, kind, "d", wholeLines(0, 2)},
		// Blanks ahead of a, and bytes that are none; what stands at a and behind it doesn't count.
		{" \tab\nc", 2, 5, kind, "d", wholeLines(0, 5)}, {" \tab\nc", 1, 5, kind, "d", wholeLines(0, 5)}, {" \tab\nc", 3, 5, kind, "d", plain(3, 4)}, {"a b\nc", 2, 4, kind, "d", plain(2, 3)}, {"a  \nc", 3, 4, kind, "d", plain(3, 3)},
		{"\r b\nc", 2, 4, kind, "d", plain(2, 3)}, {"\v\nc", 1, 2, kind, "d", plain(1, 1)}, {"\xa0\nc", 1, 2, kind, "d", plain(1, 1)}, {"\x00\nc", 1, 2, kind, "d", plain(1, 1)}, {"   \t\t x\nc", 6, 8, kind, "d", wholeLines(0, 8)},
		// Only a's own line is looked at, and b may be many lines behind.
		{"x\n y\nz\nw", 3, 7, kind, "d", wholeLines(2, 7)}, {"x\n y\nz\nw", 4, 7, kind, "d", plain(4, 6)}, {"x\n y\nz\nw", 2, 5, kind, "d", wholeLines(2, 5)}, {"x\n y\nz\nw", 0, 5, kind, "d", wholeLines(0, 5)},
		{" x\ny\nz", 3, 5, kind, "d", wholeLines(3, 5)}, {"\n\n\n", 0, 3, kind, "d", wholeLines(0, 3)}, {"\n\n\n", 1, 3, kind, "d", wholeLines(1, 3)}, {"x\n\n", 1, 3, kind, "d", plain(1, 2)},
		// The line behind the last line end has a start too.
		{"a\n", 0, 2, kind, "d", wholeLines(0, 2)}, {"ab\n", 1, 3, kind, "d", plain(1, 2)}, {"ab\n", 3, 1, kind, "d", plain(1, 2)},
		// Another place of a later line isn't put back.
		{"a\nbc", 0, 3, kind, "d", plain(0, 3)}, {"a\nbc", 0, 4, kind, "d", plain(0, 4)}, {"a\n b", 0, 3, kind, "d", plain(0, 3)}, {"a\nb", 0, 1, kind, "d", plain(0, 1)},
	})
}

func TestInclusiveByHand(t *testing.T) {
	const kind = api.Inclusive
	holdOf(t, []asked{
		{"", 0, 0, kind, "d", plain(0, 0)}, {"ab", 0, 0, kind, "d", plain(0, 1)}, {"ab", 0, 1, kind, "d", plain(0, 2)}, {"ab", 0, 2, kind, "d", plain(0, 2)}, {"ab", 2, 2, kind, "d", plain(2, 2)}, {"ab", 2, 0, kind, "d", plain(0, 2)},
		// Line ends between are in it, one at b is not; nothing is put back.
		{"a\nb", 0, 1, kind, "d", plain(0, 1)}, {"a\nb", 1, 1, kind, "d", plain(1, 1)}, {"a\nb", 0, 2, kind, "d", plain(0, 3)}, {"a\nb", 2, 0, kind, "c", plain(0, 3)}, {"a\nb", 1, 2, kind, "y", plain(1, 3)}, {"a\nb", 0, 3, kind, "y", plain(0, 3)},
		{"a\n\n", 0, 2, kind, "d", plain(0, 2)}, {"a\n\n", 0, 3, kind, "d", plain(0, 3)}, {"a\r\n", 0, 1, kind, "d", plain(0, 2)}, {"a\x00", 0, 1, kind, "d", plain(0, 2)}, {"\xff", 0, 0, kind, "d", plain(0, 1)},
	})
}

func TestLinesByHand(t *testing.T) {
	for _, op := range operators() {
		for kind := 1; kind <= 3; kind++ {
			if kind != api.Linewise && op != ">" && op != "<" {
				continue
			}
			holdOf(t, []asked{
				{"", 0, 0, kind, op, wholeLines(0, 0)}, {example, 1, 1, kind, op, wholeLines(0, 3)}, {example, 2, 0, kind, op, wholeLines(0, 3)}, {example, 4, 5, kind, op, leadLines(2, 6)}, {example, 6, 3, kind, op, leadLines(2, 6)}, {example, 2, 3, kind, op, wholeLines(0, 6)}, {example, 0, 3, kind, op, wholeLines(0, 6)}, {example, 6, 0, kind, op, wholeLines(0, 6)},
				{"a\nb\nc\n", 2, 4, kind, op, wholeLines(2, 6)}, {"a\nb\nc\n", 3, 2, kind, op, wholeLines(2, 4)}, {"a\nb\nc\n", 4, 6, kind, op, leadLines(3, 6)}, {"a\nb\nc\n", 6, 6, kind, op, leadLines(5, 6)}, {"a\nb\nc\n", 0, 6, kind, op, wholeLines(0, 6)},
				{example, 0, 7, kind, op, refusedStretch()},
			})
		}
	}
}

func TestTakeByHand(t *testing.T) {
	wrong := refusedTaken()
	for _, c := range []struct {
		text string
		r    api.Range
		want taken
	}{
		{example, api.Range{From: 0, To: 3, Lines: true}, linesTaken("ab\n")}, {example, api.Range{From: 2, To: 6, Lines: true, Lead: true}, linesTaken("  c\n")}, {example, api.Range{From: 0, To: 6, Lines: true}, linesTaken("ab\n  c\n")},
		{"", api.Range{Lines: true}, linesTaken("\n")}, {"", api.Range{}, plainTaken("")}, {"", api.Range{Lines: true, Lead: true}, wrong}, {"", api.Range{Lead: true}, plainTaken("")},
		{example, api.Range{From: 0, To: 3}, plainTaken("ab\n")}, {example, api.Range{From: 1, To: 4}, plainTaken("b\n ")}, {example, api.Range{From: 2, To: 2}, plainTaken("")}, {example, api.Range{From: 6, To: 6}, plainTaken("")}, {example, api.Range{From: 0, To: 6}, plainTaken(example)},
		// Lead is of lines alone.
		{example, api.Range{From: 1, To: 3, Lead: true}, plainTaken("b\n")}, {example, api.Range{From: 2, To: 4, Lead: true}, plainTaken("\n ")}, {example, api.Range{From: 6, To: 6, Lead: true}, plainTaken("")},
		// Lines that aren't whole are taken as they are, with a line end, unless there is one.
		{example, api.Range{From: 1, To: 2, Lines: true}, linesTaken("b\n")}, {example, api.Range{From: 4, To: 4, Lines: true}, linesTaken("\n")}, {example, api.Range{From: 2, To: 3, Lines: true}, linesTaken("\n")}, {example, api.Range{From: 2, To: 2, Lines: true}, linesTaken("\n")}, {"\n\n", api.Range{From: 0, To: 2, Lines: true}, linesTaken("\n\n")}, {example, api.Range{From: 6, To: 6, Lines: true}, linesTaken("\n")},
		// With Lead there is always a line end more, and To counts as From + 1 at least.
		{example, api.Range{From: 2, To: 2, Lines: true, Lead: true}, linesTaken("\n")}, {example, api.Range{From: 2, To: 3, Lines: true, Lead: true}, linesTaken("\n")}, {example, api.Range{From: 2, To: 4, Lines: true, Lead: true}, linesTaken(" \n")}, {"\n\n", api.Range{From: 0, To: 2, Lines: true, Lead: true}, linesTaken("\n\n")}, {"a\nb\n", api.Range{From: 1, To: 4, Lines: true, Lead: true}, linesTaken("b\n\n")}, {"\n", api.Range{From: 0, To: 0, Lines: true, Lead: true}, linesTaken("\n")}, {"a\n", api.Range{From: 1, To: 1, Lines: true, Lead: true}, linesTaken("\n")},
		// Lead where there is no line end.
		{example, api.Range{From: 0, To: 3, Lines: true, Lead: true}, wrong}, {example, api.Range{From: 3, To: 6, Lines: true, Lead: true}, wrong}, {example, api.Range{From: 6, To: 6, Lines: true, Lead: true}, wrong}, {"a\n", api.Range{From: 2, To: 2, Lines: true, Lead: true}, wrong}, {"\r", api.Range{From: 0, To: 1, Lines: true, Lead: true}, wrong},
	} {
		if got := take([]byte(c.text), c.r); got != c.want {
			t.Errorf("Take(%q, %+v) = %+v; want %+v", c.text, c.r, got, c.want)
		}
	}
}

func TestNoRange(t *testing.T) {
	text := []byte("\nab\n")
	for _, r := range []api.Range{{From: -1, To: 2}, {From: 0, To: 5}, {From: 3, To: 2}, {From: 5, To: 5}, {From: -1, To: -1}, {From: 1, To: 0}, {From: 0, To: -1}, {From: math.MinInt, To: math.MaxInt}, {From: math.MaxInt, To: math.MinInt}, {From: math.MaxInt, To: math.MaxInt}, {From: 0, To: math.MaxInt}, {From: math.MinInt, To: 0}, {From: 1 << 32, To: 1 << 32}} {
		for flags := range 4 {
			r.Lines, r.Lead = flags&1 > 0, flags&2 > 0
			if got := take(text, r); got != refusedTaken() {
				t.Errorf("Take(%q, %+v) = %+v", text, r, got)
			}
		}
	}
}

func TestWrongTargets(t *testing.T) {
	wrong := refusedStretch()
	for _, op := range append(operators(), "x", "") {
		for _, at := range []int{-1, len(example) + 1, math.MinInt, math.MaxInt, 1 << 32} {
			for kind := 0; kind <= 4; kind++ {
				holdOf(t, []asked{{example, at, 0, kind, op, wrong}, {example, 0, at, kind, op, wrong}, {example, at, at, kind, op, wrong}, {example, at, -1, kind, op, wrong}})
			}
		}
		for _, kind := range []int{0, -1, 4, 5, -3, 1<<32 + 1, 1<<8 + 1, math.MinInt, math.MaxInt} {
			holdOf(t, []asked{{example, 0, 1, kind, op, wrong}, {"", 0, 0, kind, op, wrong}})
		}
		for kind := 1; kind <= 3; kind++ {
			holdOf(t, []asked{{"", 0, 1, kind, op, wrong}, {"", 1, 0, kind, op, wrong}, {"", -1, 0, kind, op, wrong}})
		}
	}
}

// Each text of up to two bytes as an operator: just the eight are taken, and no longer text is.
func TestEveryOperator(t *testing.T) {
	list := []string{"", "dd", "yy", ">>", "<<", "g~~", "gud", "d ", " d", "d\x00", "\x00d", "g~g~", "gugu", "gUU", "2d", "=", "!", "gq", "g?", "\uff44", strings.Repeat("d", 1000)}
	for a := range 256 {
		list = append(list, string([]byte{byte(a)}))
		for b := range 256 {
			list = append(list, string([]byte{byte(a), byte(b)}))
		}
	}
	took := 0
	for _, op := range list {
		for kind := 1; kind <= 3; kind++ {
			got := of([]byte(example), 1, 5, kind, op)
			switch {
			case got.e == api.OK && isKnown(op):
				took++
			case got != refusedStretch() || isKnown(op):
				t.Errorf("the operator %q with the kind %d: %+v", op, kind, got)
			}
		}
	}
	if took != 3*8 {
		t.Errorf("%d were taken", took)
	}
}

// eachTarget calls do with every target of the text and every operator.
func eachTarget(length int, do func(g api.Target, op string)) {
	for _, op := range operators() {
		for from := 0; from <= length; from++ {
			for to := 0; to <= length; to++ {
				for kind := 1; kind <= 3; kind++ {
					do(api.Target{From: from, To: to, Kind: kind}, op)
				}
			}
		}
	}
}

// ofAsTold: P14.1, P14.2 and P14.4, of one target.
func ofAsTold(t *testing.T, text []byte, g api.Target, op string) {
	got := of(text, g.From, g.To, g.Kind, op)
	if want := wordOf(string(text), g, op); got != want {
		t.Fatalf("Of(%.99q, %+v, %q) = %+v; want %+v", text, g, op, got, want)
	}
	if other := of(text, g.To, g.From, g.Kind, op); other != got {
		t.Fatalf("Of(%.99q, %+v, %q) = %+v; the other way %+v", text, g, op, got, other)
	}
	if got.e != api.OK {
		return
	}
	takes(t, text, got.r)
	a, b := min(g.From, g.To), max(g.From, g.To)
	// Put back is the end just where it is one below b, at a line end, and b isn't a's.
	back := g.Kind == api.Exclusive && !got.r.Lines && a < b && got.r.To == b-1 && text[b-1] == '\n'
	if a < got.r.From || a > got.r.To || b < got.r.From || b > got.r.To && !back {
		t.Fatalf("Of(%.99q, %+v, %q) = %+v, without its places", text, g, op, got)
	}
}

// takes: P14.2, that it is a range of the text, and that Take takes it.
func takes(t *testing.T, text []byte, r api.Range) {
	if r.From < 0 || r.From > r.To || r.To > len(text) {
		t.Fatalf("%.99q has no range %+v", text, r)
	}
	if reg, e := extent.Take(text, r); e != api.OK || !reg.Set || reg.Lines != r.Lines {
		t.Fatalf("Take(%.99q, %+v) = %+v, %d", text, r, reg, e)
	}
}

func takeAsTold(t *testing.T, text []byte, r api.Range) {
	if got, want := take(text, r), wordTake(string(text), r); got != want {
		t.Fatalf("Take(%.99q, %+v) = %.99v; want %.99v", text, r, got, want)
	}
}

func wholeAsTold(t *testing.T, text []byte, from, to int) {
	got := whole(text, from, to)
	if want := wordWhole(string(text), from, to); got != want {
		t.Fatalf("Whole(%.99q, %d, %d) = %+v; want %+v", text, from, to, got, want)
	}
	if got.e == api.OK {
		takes(t, text, got.r)
	}
}

// outAndIn: P14.3.
func outAndIn(t *testing.T, text []byte, a, b int) {
	list := lines.Split(text)
	got := whole(text, a, b)
	if got.e != api.OK {
		t.Fatalf("Whole(%.99q, %d, %d) = %+v", text, a, b, got)
	}
	want := string(bytes.Join(list[a:b+1], []byte("\n"))) + "\n"
	if a == 0 && b > 0 && b == len(list)-1 && len(list[b]) == 0 {
		want = want[:len(want)-1]
	}
	if reg := take(text, got.r); reg != linesTaken(want) {
		t.Fatalf("Take of Whole(%.99q, %d, %d) = %.99v; want %.99q", text, a, b, reg, want)
	}
	left := slices.Concat(list[:a], list[b+1:])
	if len(left) == 0 {
		left = [][]byte{nil}
	}
	rest := lines.Split(slices.Concat(text[:got.r.From], text[got.r.To:]))
	if !slices.EqualFunc(rest, left, bytes.Equal) {
		t.Fatalf("%.99q without the lines %d to %d: %.99q; want %.99q", text, a, b, rest, left)
	}
}

// numbers are all that a text of this length could have as a line or a place, some beyond, and both ends of the type.
func numbers(length int) []int {
	list := []int{math.MinInt, math.MaxInt}
	for n := -1; n <= length+2; n++ {
		list = append(list, n)
	}
	return list
}

func heldWhole(t *testing.T, text []byte) {
	eachTarget(len(text), func(g api.Target, op string) { ofAsTold(t, text, g, op) })
	list := numbers(len(text))
	for _, from := range list {
		for _, to := range list {
			wholeAsTold(t, text, from, to)
			for kind := range 5 {
				ofAsTold(t, text, api.Target{From: from, To: to, Kind: kind}, "d")
			}
			for flags := range 4 {
				takeAsTold(t, text, api.Range{From: from, To: to, Lines: flags&1 > 0, Lead: flags&2 > 0})
			}
		}
	}
	for b := range lines.Count(text) {
		for a := range b + 1 {
			outAndIn(t, text, a, b)
		}
	}
}

// eachText calls do with every text of these bytes up to this length.
func eachText(alphabet string, length int, do func(text []byte)) {
	text := make([]byte, 0, length)
	var grow func()
	grow = func() {
		do(text)
		if len(text) == length {
			return
		}
		for i := range len(alphabet) {
			text = append(text, alphabet[i])
			grow()
			text = text[:len(text)-1]
		}
	}
	grow()
}

func TestEveryShortText(t *testing.T) {
	eachText("a \n", 6, func(text []byte) { heldWhole(t, text) })
	eachText("x\t\n\r", 4, func(text []byte) { heldWhole(t, text) })
	eachText("a\n", 7, func(text []byte) { heldWhole(t, text) })
}

// Each byte ahead of a, at b, ahead of b, and as a line's only one.
func TestEveryByte(t *testing.T) {
	for b := range 256 {
		one := string([]byte{byte(b)})
		for _, text := range []string{one, one + "\n" + one, " " + one + "\t\nx", "a\n" + one + "\n", one + one} {
			heldWhole(t, []byte(text))
		}
	}
}

// A picker is a plain row of numbers, the same in every run.
type picker uint64

func (p *picker) below(n int) int {
	*p = *p*6364136223846793005 + 1442695040888963407
	return int(uint64(*p)>>33) % n
}

func (p *picker) text(length int) []byte {
	text := make([]byte, length)
	for i := range text {
		switch p.below(8) {
		case 0, 1:
			text[i] = '\n'
		case 2, 3, 4:
			text[i] = " \t"[p.below(2)]
		default:
			text[i] = byte(p.below(256))
		}
	}
	return text
}

func TestPickedTexts(t *testing.T) {
	p := picker(14)
	for range 60 {
		heldWhole(t, p.text(p.below(24)))
	}
}

// A text may be longer than what a machine holds: extent has no limit of its own.
func TestGreatTexts(t *testing.T) {
	p := picker(4)
	size := 3 * (api.MaxText / 2)
	places := []int{-1, 0, 1, 5000, api.MaxText, size - 1, size, size + 1}
	for _, text := range [][]byte{
		p.text(size), bytes.Repeat([]byte("\n"), size), bytes.Repeat([]byte(" "), size), bytes.Repeat([]byte("ab\n"), size/3),
		append(bytes.Repeat([]byte(" "), size-2), "\nx"...), append(bytes.Repeat([]byte("\t"), size-1), '\n'), append(bytes.Repeat([]byte("x"), size-1), '\n'),
	} {
		for _, from := range places {
			for _, to := range places {
				wholeAsTold(t, text, from, to)
				ofAsTold(t, text, api.Target{From: from, To: to, Kind: api.Exclusive}, "d")
				ofAsTold(t, text, api.Target{From: from, To: to, Kind: api.Inclusive}, "gU")
				ofAsTold(t, text, api.Target{From: from, To: to, Kind: api.Linewise}, "y")
				takeAsTold(t, text, api.Range{From: from, To: to})
				takeAsTold(t, text, api.Range{From: from, To: to, Lines: true})
				takeAsTold(t, text, api.Range{From: from, To: to, Lines: true, Lead: true})
			}
		}
		last := lines.Count(text) - 1
		outAndIn(t, text, 0, last)
		outAndIn(t, text, last/2, last)
		outAndIn(t, text, last, last)
		outAndIn(t, text, last/3, last/2)
	}
}

func TestNilIsTheEmptyText(t *testing.T) {
	heldWhole(t, nil)
	heldWhole(t, []byte{})
}

// withRoom is a text with spare room behind it that is filled, so that a write into it is seen.
func withRoom(text string) (all, part []byte) {
	all = append([]byte(text), "#spare#"...)
	return all, all[:len(text)]
}

func TestTextIsLeftAlone(t *testing.T) {
	for _, text := range []string{"", "a", "\n", example, "a\nb\n", "\n\n"} {
		all, part := withRoom(text)
		before := bytes.Clone(all)
		heldWhole(t, part)
		if !bytes.Equal(all, before) {
			t.Errorf("%q: the text or its spare room is now %q", text, all)
		}
	}
}

// fill writes over a list, up to the end of its room.
func fill(list []byte, b byte) {
	for i := range list[:cap(list)] {
		list[:cap(list)][i] = b
	}
}

// What Take tells is memory of its own, up to the end of its room.
func TestTakeSharesNothing(t *testing.T) {
	for _, r := range []api.Range{{From: 0, To: 6}, {From: 1, To: 4}, {From: 2, To: 2}, {From: 0, To: 3, Lines: true}, {From: 0, To: 6, Lines: true}, {From: 1, To: 2, Lines: true}, {From: 2, To: 6, Lines: true, Lead: true}, {From: 2, To: 2, Lines: true, Lead: true}} {
		all, part := withRoom(example)
		before := bytes.Clone(all)
		one, _ := extent.Take(part, r)
		two, _ := extent.Take(part, r)
		want := string(two.Text)
		fill(one.Text, '1')
		if !bytes.Equal(all, before) || string(two.Text) != want {
			t.Errorf("Take(%+v) shares with the text or with another answer", r)
		}
		fill(two.Text, '2')
		if bytes.Contains(one.Text, []byte("2")) || !bytes.Equal(all, before) {
			t.Errorf("Take(%+v): its room is another's", r)
		}
		three, _ := extent.Take(part, r)
		fill(part, '3')
		if string(three.Text) != want {
			t.Errorf("Take(%+v) shares with the text", r)
		}
	}
}
