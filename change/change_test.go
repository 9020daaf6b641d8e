package change_test

import (
	"bytes"
	"math"
	"slices"
	"strings"
	"testing"

	"quoin/api"
	"quoin/change"
	"quoin/pins"
	"quoin/sheet"
)

// short are all strings of up to most of the letters.
func short(letters string, most int) []string {
	list := []string{""}
	for i := 0; i < len(list); i++ {
		for j := range len(letters) {
			if len(list[i]) < most {
				list = append(list, list[i]+letters[j:j+1])
			}
		}
	}
	return list
}

// ends are numbers about the bounds of what the calls tell apart, and at both ends of an int.
func ends() []int {
	return []int{math.MinInt, math.MinInt + 1, math.MinInt32, -65536, -2, -1, 0, 1, 2, 3, 4, 65535, 65536, 65537, math.MaxInt32, math.MaxInt - 6, math.MaxInt - 3, math.MaxInt - 2, math.MaxInt - 1, math.MaxInt}
}

// A picker is a plain row of numbers, the same in every run.
type picker uint64

func (p *picker) below(n int) int {
	*p = *p*6364136223846793005 + 1442695040888963407
	return int(uint64(*p)>>33) % n
}

// text is of few kinds of bytes, so that many texts have much in common.
func (p *picker) text(most int) string {
	text := make([]byte, p.below(most+1))
	for i := range text {
		text[i] = "aaab\n\x00\xff"[p.below(7)]
	}
	return string(text)
}

// any are edits such as may fit no text.
func (p *picker) any(most int) []swap {
	var list []swap
	for range p.below(most + 1) {
		at := p.below(30) - 4
		if p.below(5) == 0 {
			at = ends()[p.below(len(ends()))]
		}
		s := swap{at, p.text(9), p.text(9)}
		if p.below(6) == 0 {
			s.new = s.old
		}
		list = append(list, s)
	}
	return list
}

// fitting are edits that fit the text, and the text behind them.
func (p *picker) fitting(text string, most int) ([]swap, string) {
	var list []swap
	for range p.below(most + 1) {
		at := p.below(len(text) + 1)
		end := at + p.below(min(len(text)-at, 9)+1)
		if p.below(9) == 0 {
			end = len(text)
		}
		s := swap{at, text[at:end], p.text(9)}
		switch p.below(6) {
		case 0:
			s.new = s.old
		case 1:
			// Much of the old is new again.
			s.new = s.old[:len(s.old)/2] + s.new + s.old[len(s.old)/2:]
		}
		list = append(list, s)
		text = text[:at] + s.new + text[end:]
	}
	return list, text
}

func sameEdits(t *testing.T, what string, got []api.Edit, want []swap) {
	t.Helper()
	if !slices.Equal(asSwaps(got), want) {
		t.Fatalf("%s = %v; want %v", what, asSwaps(got), want)
	}
}

// applyAsTold: P17.1, of Apply and Check.
func applyAsTold(t *testing.T, text string, list []swap) (string, api.Errno) {
	t.Helper()
	want, wantE := wordApply(text, list)
	got, e := change.Apply([]byte(text), asEdits(list))
	if string(got) != want || e != wantE {
		t.Fatalf("Apply of %v to %.80q = %.80q, %d; want %.80q, %d", list, text, got, e, want, wantE)
	}
	if c := change.Check([]byte(text), asEdits(list)); c != wantE {
		t.Fatalf("Check of %v for %.80q = %d; want %d", list, text, c, wantE)
	}
	return string(got), e
}

// plainAsTold: P17.1, of the calls that take any edits.
func plainAsTold(t *testing.T, list []swap) {
	t.Helper()
	edits := asEdits(list)
	sameEdits(t, "Invert", change.Invert(edits), wordInvert(list))
	sameEdits(t, "Trim", change.Trim(edits), wordTrim(list))
	if got, want := change.Size(edits), wordSize(list); got != want {
		t.Fatalf("Size of %v = %d; want %d", list, got, want)
	}
	if got, want := change.First(edits), wordFirst(list); got != want {
		t.Fatalf("First of %v = %d; want %d", list, got, want)
	}
}

func TestApplyExamples(t *testing.T) {
	for _, c := range []struct {
		text string
		list []swap
		want string
		e    api.Errno
	}{
		{"abc", []swap{{1, "b", "xy"}, {3, "c", ""}}, "axy", 0},
		{"abc", []swap{{1, "c", "x"}}, "", 170}, {"abc", []swap{{4, "", "x"}}, "", 170}, {"abc", []swap{{-1, "", ""}}, "", 170},
		{"abc", []swap{{3, "", "d"}}, "abcd", 0}, {"abc", nil, "abc", 0}, {"", nil, "", 0},
		// At the text's ends, and past them.
		{"abc", []swap{{0, "", "d"}}, "dabc", 0}, {"abc", []swap{{0, "abc", ""}}, "", 0}, {"abc", []swap{{3, "", ""}}, "abc", 0}, {"abc", []swap{{2, "c", "de"}}, "abde", 0}, {"abc", []swap{{2, "cd", ""}}, "", 170}, {"abc", []swap{{3, "c", ""}}, "", 170}, {"abc", []swap{{0, "abcd", ""}}, "", 170}, {"abc", []swap{{4, "", ""}}, "", 170}, {"", []swap{{0, "", "x"}}, "x", 0}, {"", []swap{{0, "", ""}}, "", 0}, {"", []swap{{1, "", ""}}, "", 170}, {"", []swap{{0, "x", ""}}, "", 170},
		// The last byte of Old is looked at as well as the first.
		{"abc", []swap{{0, "abx", ""}}, "", 170}, {"abc", []swap{{0, "xbc", ""}}, "", 170}, {"abc", []swap{{0, "ABC", ""}}, "", 170},
		// An edit that does nothing must fit all the same.
		{"abc", []swap{{1, "b", "b"}}, "abc", 0}, {"abc", []swap{{1, "c", "c"}}, "", 170}, {"abc", []swap{{-1, "c", "c"}}, "", 170},
		// Each is meant for what the ones ahead of it left.
		{"abc", []swap{{3, "", "d"}, {4, "", "e"}}, "abcde", 0}, {"abc", []swap{{4, "", "e"}, {3, "", "d"}}, "", 170}, {"abc", []swap{{0, "a", ""}, {0, "a", ""}}, "", 170}, {"abc", []swap{{0, "a", ""}, {0, "b", ""}, {0, "c", ""}}, "", 0}, {"abc", []swap{{1, "b", "xy"}, {1, "b", ""}}, "", 170}, {"abc", []swap{{1, "b", "xy"}, {1, "xyc", "q"}}, "aq", 0},
		// A later one that doesn't fit refuses them all.
		{"abc", []swap{{0, "a", "x"}, {3, "c", ""}}, "", 170}, {"abc", []swap{{5, "", ""}, {0, "a", "x"}}, "", 170},
		{"a\nb", []swap{{1, "\n", "\x00\xff"}}, "a\x00\xffb", 0}, {"\xc3\xa4", []swap{{1, "\xa4", ""}}, "\xc3", 0},
		// At and the length of Old are more than an int together.
		{"abc", []swap{{math.MaxInt, "abc", ""}}, "", 170}, {"abc", []swap{{math.MaxInt - 1, "c", "d"}}, "", 170}, {"abc", []swap{{math.MinInt, "", ""}}, "", 170}, {"abc", []swap{{math.MaxInt, "", ""}}, "", 170},
	} {
		got, e := applyAsTold(t, c.text, c.list)
		if got != c.want || e != c.e {
			t.Errorf("Apply of %v to %q = %q, %d; want %q, %d", c.list, c.text, got, e, c.want, c.e)
		}
	}
}

// P17.1, of Apply and Check: every edit of few letters for every short text.
func TestEverySmallEdit(t *testing.T) {
	texts := short("ab", 4)
	for _, text := range texts {
		for at := -2; at <= 6; at++ {
			for _, old := range texts {
				applyAsTold(t, text, []swap{{at, old, ""}})
				applyAsTold(t, text, []swap{{at, old, "a"}})
				applyAsTold(t, text, []swap{{at, old, "\nxyz\xff"}})
				applyAsTold(t, text, []swap{{at, old, old}})
			}
		}
	}
}

func TestEveryTwoEdits(t *testing.T) {
	var list []swap
	for at := range 4 {
		for _, old := range short("ab", 2) {
			for _, new := range []string{"", "a", "bab"} {
				list = append(list, swap{at, old, new})
			}
		}
	}
	for _, text := range []string{"", "a", "ab", "aba"} {
		for _, one := range list {
			for _, two := range list {
				applyAsTold(t, text, []swap{one, two})
			}
		}
	}
}

// Places far from every text, with all kinds of Old.
func TestApplyAtTheEnds(t *testing.T) {
	for _, text := range []string{"", "a", "abc"} {
		for _, at := range ends() {
			for _, old := range []string{"", "a", "c", "abc", strings.Repeat("a", 70000)} {
				applyAsTold(t, text, []swap{{at, old, "xy"}})
				applyAsTold(t, text, []swap{{0, "", "xy"}, {at, old, ""}})
			}
		}
	}
}

// A list that fits is refused when one of its edits is spoiled, wherever that stands.
func TestOneThatDoesNotFit(t *testing.T) {
	p := picker(7)
	for range 600 {
		text := p.text(20)
		list, _ := p.fitting(text, 6)
		for i, s := range list {
			behind, _ := wordApply(text, list[:i])
			for _, bad := range []swap{{-1, "", s.new}, {len(behind) + 1, "", s.new}, {s.at, behind[s.at:] + "a", s.new}, {s.at, s.old + "x", s.new}, {s.at, "x" + s.old, s.new}} {
				spoiled := slices.Clone(list)
				spoiled[i] = bad
				got, e := change.Apply([]byte(text), asEdits(spoiled))
				if len(got) != 0 || e != api.ErrEdit || change.Check([]byte(text), asEdits(spoiled)) != api.ErrEdit {
					t.Fatalf("Apply of %v to %q = %q, %d", spoiled, text, got, e)
				}
			}
		}
	}
}

func TestPlainExamples(t *testing.T) {
	for _, c := range []struct {
		list         []swap
		back, less   []swap
		size, lowest int
	}{
		{nil, nil, nil, 0, 0},
		{[]swap{{1, "b", "xy"}, {3, "c", ""}}, []swap{{3, "", "c"}, {1, "xy", "b"}}, []swap{{1, "b", "xy"}, {3, "c", ""}}, 0, 1},
		{[]swap{{0, "abc", "abc"}, {2, "abcd", "axcd"}}, []swap{{2, "axcd", "abcd"}, {0, "abc", "abc"}}, []swap{{3, "b", "x"}}, 0, 0},
		{[]swap{{0, "aa", "aaa"}}, []swap{{0, "aaa", "aa"}}, []swap{{2, "", "a"}}, 1, 0},
		{[]swap{{5, "ab", "c"}, {2, "", "xyz"}}, []swap{{2, "xyz", ""}, {5, "c", "ab"}}, []swap{{5, "ab", "c"}, {2, "", "xyz"}}, 2, 2},
		// What begins in common goes first; the rest alone is asked how it ends.
		{[]swap{{0, "aaa", "a"}}, []swap{{0, "a", "aaa"}}, []swap{{1, "aa", ""}}, -2, 0},
		{[]swap{{4, "abab", "ab"}}, []swap{{4, "ab", "abab"}}, []swap{{6, "ab", ""}}, -2, 4},
		{[]swap{{4, "ab", "aab"}}, []swap{{4, "aab", "ab"}}, []swap{{5, "", "a"}}, 1, 4},
		{[]swap{{4, "xab", "ab"}}, []swap{{4, "ab", "xab"}}, []swap{{4, "x", ""}}, -1, 4},
		{[]swap{{4, "axb", "ayyb"}}, []swap{{4, "ayyb", "axb"}}, []swap{{5, "x", "yy"}}, 1, 4},
		{[]swap{{4, "abc", ""}}, []swap{{4, "", "abc"}}, []swap{{4, "abc", ""}}, -3, 4},
		// Edits that do nothing are left out wherever they stand; they count for First all the same.
		{[]swap{{1, "", ""}, {7, "a", "b"}, {3, "x", "x"}}, []swap{{3, "x", "x"}, {7, "b", "a"}, {1, "", ""}}, []swap{{7, "a", "b"}}, 0, 1},
		{[]swap{{9, "", ""}}, []swap{{9, "", ""}}, nil, 0, 9},
		// An At may be any number.
		{[]swap{{7, "", "a"}, {9, "", "b"}}, []swap{{9, "b", ""}, {7, "a", ""}}, []swap{{7, "", "a"}, {9, "", "b"}}, 2, 7},
		{[]swap{{-3, "ax", "ay"}, {-2, "x", ""}}, []swap{{-2, "", "x"}, {-3, "ay", "ax"}}, []swap{{-2, "x", "y"}, {-2, "x", ""}}, -1, -3},
		{[]swap{{math.MaxInt, "ax", "ay"}}, []swap{{math.MaxInt, "ay", "ax"}}, []swap{{math.MinInt, "x", "y"}}, 0, math.MaxInt},
		{[]swap{{math.MaxInt - 1, "aaxb", "aab"}}, []swap{{math.MaxInt - 1, "aab", "aaxb"}}, []swap{{math.MinInt, "x", ""}}, -1, math.MaxInt - 1},
		{[]swap{{math.MaxInt, "", "a"}, {math.MinInt, "", "a"}, {0, "", "a"}}, []swap{{0, "a", ""}, {math.MinInt, "a", ""}, {math.MaxInt, "a", ""}}, []swap{{math.MaxInt, "", "a"}, {math.MinInt, "", "a"}, {0, "", "a"}}, 3, math.MinInt},
	} {
		edits := asEdits(c.list)
		sameEdits(t, "Invert", change.Invert(edits), c.back)
		sameEdits(t, "Trim", change.Trim(edits), c.less)
		if n, at := change.Size(edits), change.First(edits); n != c.size || at != c.lowest {
			t.Errorf("Size, First of %v = %d, %d; want %d, %d", c.list, n, at, c.size, c.lowest)
		}
		plainAsTold(t, c.list)
	}
}

// P17.1 and P17.3, of Trim: every edit of few letters, at any place.
func TestEverySmallTrim(t *testing.T) {
	texts := short("ab", 5)
	for _, old := range texts {
		for _, new := range texts {
			for _, at := range []int{0, 3, -2, math.MaxInt - 2} {
				plainAsTold(t, []swap{{at, old, new}})
				cutDown(t, swap{at, old, new})
			}
		}
	}
}

// cutDown holds what Trim makes of an edit against what is asked of it, without the words' own way.
func cutDown(t *testing.T, s swap) {
	t.Helper()
	got := asSwaps(change.Trim(asEdits([]swap{s})))
	if (len(got) == 0) != (s.old == s.new) {
		t.Fatalf("Trim of %v = %v", s, got)
	}
	if len(got) == 0 {
		return
	}
	a, b := got[0].old, got[0].new
	n := got[0].at - s.at
	m := len(s.old) - n - len(a)
	if s.old[:n] != s.new[:n] || s.old[n:n+len(a)] != a || s.new[n:n+len(b)] != b || s.old[n+len(a):] != s.new[n+len(b):] || m < 0 {
		t.Fatalf("Trim of %v = %v", s, got)
	}
	if a != "" && b != "" && (a[0] == b[0] || a[len(a)-1] == b[len(b)-1]) {
		t.Fatalf("Trim of %v = %v: it could be cut further", s, got)
	}
	// With one of the two empty the common beginning must have been taken as long as it is.
	if n < min(len(s.old), len(s.new)) && s.old[n] == s.new[n] {
		t.Fatalf("Trim of %v = %v: more begins in common", s, got)
	}
}

func TestPlainCallsOfAnyEdits(t *testing.T) {
	p := picker(17)
	for range 6000 {
		list := p.any(8)
		plainAsTold(t, list)
		applyAsTold(t, p.text(20), list)
	}
}

// P17.2: Invert of Invert is the edits, whether they fit or not.
func TestInvertOfInvert(t *testing.T) {
	p := picker(22)
	for range 3000 {
		list := p.any(8)
		sameEdits(t, "Invert of Invert", change.Invert(change.Invert(asEdits(list))), list)
	}
}

// P17.2: there and back.
func TestThereAndBack(t *testing.T) {
	p := picker(2)
	for range 4000 {
		text := p.text(24)
		list, behind := p.fitting(text, 8)
		edits := asEdits(list)
		got, e := change.Apply([]byte(text), edits)
		if string(got) != behind || e != api.OK {
			t.Fatalf("Apply of %v to %q = %q, %d; want %q", list, text, got, e, behind)
		}
		back := change.Invert(edits)
		again, e := change.Apply(got, back)
		if string(again) != text || e != api.OK || change.Check(got, back) != api.OK {
			t.Fatalf("%v and back to %q, %d; it was %q", list, again, e, text)
		}
		sameEdits(t, "Invert of Invert", change.Invert(back), list)
	}
}

// P17.3: cut down edits do the same.
func TestCutDownDoesTheSame(t *testing.T) {
	p := picker(3)
	for range 4000 {
		text := p.text(24)
		list, behind := p.fitting(text, 8)
		edits := asEdits(list)
		less := change.Trim(edits)
		got, e := change.Apply([]byte(text), less)
		if string(got) != behind || e != api.OK || change.Check([]byte(text), less) != api.OK {
			t.Fatalf("Apply of Trim of %v to %q = %q, %d; want %q", list, text, got, e, behind)
		}
		sameEdits(t, "Trim of Trim", change.Trim(less), asSwaps(less))
		if change.Size(less) != change.Size(edits) {
			t.Fatalf("Size of Trim of %v is %d", list, change.Size(less))
		}
		if len(less) > 0 && change.First(less) < change.First(edits) {
			t.Fatalf("First of Trim of %v is %d", list, change.First(less))
		}
		for _, one := range less {
			if bytes.Equal(one.Old, one.New) {
				t.Fatalf("Trim of %v leaves one that does nothing", list)
			}
		}
	}
}

// P17.3, of edits that fit no text: Trim of Trim and Size.
func TestTrimOfTrim(t *testing.T) {
	p := picker(31)
	for range 3000 {
		edits := asEdits(p.any(8))
		less := change.Trim(edits)
		sameEdits(t, "Trim of Trim", change.Trim(less), asSwaps(less))
		if change.Size(less) != change.Size(edits) {
			t.Fatalf("Size of Trim of %v is %d", asSwaps(edits), change.Size(less))
		}
	}
}

func TestBetweenExamples(t *testing.T) {
	for _, c := range []struct {
		a, b string
		want []swap
	}{
		{"hello", "help", []swap{{3, "lo", "p"}}}, {"ab", "ab", nil}, {"", "", nil}, {"", "ab", []swap{{0, "", "ab"}}}, {"ab", "", []swap{{0, "ab", ""}}}, {"aa", "aaa", []swap{{2, "", "a"}}}, {"aaa", "aa", []swap{{2, "a", ""}}}, {"abc", "axc", []swap{{1, "b", "x"}}}, {"a\nb\nc", "a\nc", []swap{{2, "b\n", ""}}}, {"abc", "xyz", []swap{{0, "abc", "xyz"}}}, {"abc", "xbz", []swap{{0, "abc", "xbz"}}}, {"Ab", "ab", []swap{{0, "A", "a"}}}, {"ab", "ab\x00", []swap{{2, "", "\x00"}}},
	} {
		sameEdits(t, "Between", change.Between([]byte(c.a), []byte(c.b)), c.want)
	}
}

// betweenAsTold: P17.1 and P17.4, of Between.
func betweenAsTold(t *testing.T, a, b string) {
	t.Helper()
	edits := change.Between([]byte(a), []byte(b))
	sameEdits(t, "Between", edits, wordBetween(a, b))
	got, e := change.Apply([]byte(a), edits)
	if string(got) != b || e != api.OK || change.Check([]byte(a), edits) != api.OK {
		t.Fatalf("Between of %.80q and %.80q leads to %.80q, %d", a, b, got, e)
	}
	sameEdits(t, "Trim of Between", change.Trim(edits), asSwaps(edits))
	if change.Size(edits) != len(b)-len(a) {
		t.Fatalf("Size of Between of %.80q and %.80q is %d", a, b, change.Size(edits))
	}
}

// P17.4: from every short text to every other, from picked ones, and from great ones.
func TestEveryBetween(t *testing.T) {
	texts := short("ab\n", 4)
	for _, a := range texts {
		for _, b := range texts {
			betweenAsTold(t, a, b)
		}
	}
	p := picker(4)
	for range 3000 {
		text := p.text(30)
		_, behind := p.fitting(text, 3)
		betweenAsTold(t, text, behind)
	}
	great := strings.Repeat("ab\n", 70000)
	for _, b := range []string{"", great, great + "a", great[1:], great[:100000] + "x" + great[100000:], great[:100000] + great[100003:], great[:100000] + "\x00" + great[100001:], "x" + great + "x"} {
		betweenAsTold(t, great, b)
		betweenAsTold(t, b, great)
	}
}

// P17.5: one list and then another, wherever a list is cut.
func TestOneBehindTheOther(t *testing.T) {
	p := picker(5)
	for range 3000 {
		text := p.text(24)
		list, behind := p.fitting(text, 8)
		edits := asEdits(list)
		if change.Size(edits) != len(behind)-len(text) {
			t.Fatalf("Size of %v is %d; the text grew from %d to %d", list, change.Size(edits), len(text), len(behind))
		}
		for i := range len(edits) + 1 {
			a, b := edits[:i], edits[i:]
			middle, e := change.Apply([]byte(text), a)
			if e != api.OK || change.Size(a) != len(middle)-len(text) {
				t.Fatalf("Apply of %v to %q = %q, %d, with Size %d", list[:i], text, middle, e, change.Size(a))
			}
			got, e := change.Apply(middle, b)
			both, f := change.Apply([]byte(text), slices.Concat(a, b))
			if string(got) != behind || string(both) != behind || e != api.OK || f != api.OK {
				t.Fatalf("%v, cut at %d, leads to %q, %d and %q, %d", list, i, got, e, both, f)
			}
			if change.Size(a)+change.Size(b) != change.Size(edits) {
				t.Fatalf("Size of %v, cut at %d, is %d and %d", list, i, change.Size(a), change.Size(b))
			}
		}
	}
}

// The layer below that edits a text in pieces takes the same edits, and makes the same text of them.
func TestAsTheSheetDoes(t *testing.T) {
	p := picker(44)
	for range 2000 {
		text := p.text(24)
		list, _ := p.fitting(text, 6)
		if p.below(3) == 0 {
			list = append(list, p.any(2)...)
		}
		s := sheet.New([]byte(text))
		want := s.Apply(asEdits(list))
		got, e := change.Apply([]byte(text), asEdits(list))
		if e != want || e == api.OK && !bytes.Equal(got, s.Bytes()) {
			t.Fatalf("Apply of %v to %q = %q, %d; the sheet's %q, %d", list, text, got, e, s.Bytes(), want)
		}
	}
}

// Marks that fit a text fit the one behind edits that Check takes (P16.2), cut down or not, and there and back.
func TestMarksGoAlong(t *testing.T) {
	p := picker(16)
	for range 1000 {
		text := p.text(24)
		list, behind := p.fitting(text, 6)
		m, _ := pins.Set(pins.None(), 'a', p.below(len(text)+1))
		m, _ = pins.Set(m, '\'', len(text))
		for _, edits := range [][]api.Edit{asEdits(list), change.Trim(asEdits(list))} {
			moved := pins.Move(m, edits)
			if change.Check([]byte(text), edits) != api.OK || !pins.Fit(moved, len(behind)) {
				t.Fatalf("%v, moved by %v: %v", m, list, moved)
			}
			if back := pins.Cross(moved, m, moved, change.Invert(edits)); back != m {
				t.Fatalf("%v, moved by %v and back: %v", m, list, back)
			}
		}
	}
}

// No limit holds here: a text may be longer than MaxText, ahead of edits and behind them.
func TestGreatTexts(t *testing.T) {
	for _, n := range []int{api.MaxText - 1, api.MaxText, api.MaxText + 1, 3 * api.MaxText} {
		great := strings.Repeat("xyz\n", n)[:n]
		applyAsTold(t, "", []swap{{0, "", great}})
		applyAsTold(t, "ab", []swap{{1, "", great}, {0, "a", great}, {2 * n, "b", ""}})
		applyAsTold(t, great, []swap{{0, great, ""}, {0, "", "a"}})
		applyAsTold(t, great, []swap{{n, "", "a"}, {0, "x", ""}, {n, "", great}})
		applyAsTold(t, great, []swap{{0, great + "x", ""}})
		applyAsTold(t, great, []swap{{n + 1, "", ""}})
		plainAsTold(t, []swap{{n, great, ""}, {-n, "", great}, {0, great, "x" + great}})
	}
}

// Many edits: no call ends early, and none goes deeper with their number.
func TestManyEdits(t *testing.T) {
	const many = 100000
	edits := slices.Repeat(asEdits([]swap{{1, "", "bc"}, {1, "bc", "bd"}, {2, "d", ""}}), many)
	text, e := change.Apply([]byte("ae"), edits[:30000])
	if want := "a" + strings.Repeat("b", 10000) + "e"; string(text) != want || e != api.OK {
		t.Errorf("%.40q of %d bytes, %d", text, len(text), e)
	}
	if n := change.Size(edits); n != many {
		t.Errorf("Size is %d", n)
	}
	edits[len(edits)-1].At = -5
	if at := change.First(edits); at != -5 {
		t.Errorf("First is %d", at)
	}
	less, back := change.Trim(edits), change.Invert(edits)
	if len(less) != 3*many || len(back) != 3*many || less[3*many-1].At != -5 || less[1].At != 2 || string(less[1].New) != "d" || back[0].At != -5 || string(back[1].Old) != "bd" {
		t.Errorf("%d and %d edits", len(less), len(back))
	}
}

// nil and empty are one and the same.
func TestNilIsEmpty(t *testing.T) {
	for _, edits := range [][]api.Edit{nil, {}} {
		for _, text := range [][]byte{nil, {}} {
			if got, e := change.Apply(text, edits); len(got) != 0 || e != api.OK || change.Check(text, edits) != api.OK {
				t.Errorf("Apply of nothing to nothing = %q, %d", got, e)
			}
		}
		if len(change.Invert(edits)) != 0 || len(change.Trim(edits)) != 0 || change.Size(edits) != 0 || change.First(edits) != 0 {
			t.Error("no edits make some")
		}
	}
	for _, e := range []api.Edit{{At: 3}, {At: 3, Old: []byte{}}, {At: 3, New: []byte{}}, {At: 3, Old: []byte{}, New: []byte{}}} {
		list := []api.Edit{e}
		sameEdits(t, "Invert", change.Invert(list), []swap{{at: 3}})
		sameEdits(t, "Trim", change.Trim(list), nil)
		if got, err := change.Apply([]byte("abc"), list); string(got) != "abc" || err != api.OK {
			t.Errorf("Apply of nothing at 3 = %q, %d", got, err)
		}
	}
	if len(change.Between(nil, []byte{})) != 0 || len(change.Between([]byte{}, nil)) != 0 || len(change.Between(nil, nil)) != 0 {
		t.Error("Between of nothing and nothing isn't empty")
	}
}

// A store is memory in which a text and all edits lie, with spare room behind each.
type store struct {
	bytes []byte
	text  []byte
	edits []api.Edit
	whole []api.Edit
}

// newStore: edits that fit the text abcdefgh, two of them of shared bytes.
func newStore() *store {
	s := &store{bytes: []byte("abcdefghXYcdZZcdcd-spare-room")}
	s.text = s.bytes[:8]
	s.whole = []api.Edit{{At: 2, Old: s.bytes[2:4], New: s.bytes[8:14]}, {At: 0, Old: s.bytes[0:2], New: s.bytes[0:1]}, {At: 1, Old: s.bytes[8:12], New: s.bytes[14:18]}, {At: 0, Old: s.bytes[0:1], New: s.bytes[0:1]}, {At: 8, Old: s.bytes[0:9], New: s.bytes[1:5]}}
	s.edits = s.whole[:4]
	return s
}

// leftAlone: nothing of the store was written.
func (s *store) leftAlone(t *testing.T, what string) {
	t.Helper()
	fresh := newStore()
	if !bytes.Equal(s.bytes, fresh.bytes) || !slices.Equal(asSwaps(s.whole), asSwaps(fresh.whole)) {
		t.Errorf("%s writes: %q, %v", what, s.bytes, asSwaps(s.whole))
	}
}

// What is handed in isn't changed, nor is its spare room.
func TestHandedInIsLeftAlone(t *testing.T) {
	s := newStore()
	if text, e := change.Apply(s.text, s.edits); string(text) != "acdcdZZefgh" || e != api.OK {
		t.Errorf("Apply = %q, %d", text, e)
	}
	s.leftAlone(t, "Apply")
	if _, e := change.Apply(s.text, s.whole); e != api.ErrEdit {
		t.Errorf("Apply = %d", e)
	}
	s.leftAlone(t, "Apply of what doesn't fit")
	change.Check(s.text, s.edits)
	s.leftAlone(t, "Check")
	change.Invert(s.edits)
	s.leftAlone(t, "Invert")
	change.Trim(s.edits)
	s.leftAlone(t, "Trim")
	change.Size(s.edits)
	change.First(s.edits)
	s.leftAlone(t, "Size or First")
	change.Between(s.text, s.bytes[2:12])
	s.leftAlone(t, "Between")
}

// fill writes all that a list has room for.
func fill(list []byte, with byte) {
	list = list[:cap(list)]
	for i := range list {
		list[i] = with
	}
}

// ownMemory: each list of an answer is written whole, and no other list is touched by that, nor is what was handed in.
func ownMemory(t *testing.T, what string, s *store, answer []api.Edit) {
	t.Helper()
	var lists [][]byte
	for _, e := range answer {
		lists = append(lists, e.Old, e.New)
	}
	for i, list := range lists {
		fill(list, byte(100+i))
	}
	for i, list := range lists {
		if bytes.Count(list, []byte{byte(100 + i)}) != len(list) {
			t.Errorf("%s: the list %d shares memory with another one", what, i)
		}
	}
	clear(answer[:cap(answer)])
	s.leftAlone(t, "who writes to the answer of "+what)
}

func TestAnswersAreNewMemory(t *testing.T) {
	s := newStore()
	for _, edits := range [][]api.Edit{nil, s.edits, s.edits[:1], s.edits[3:]} {
		text, e := change.Apply(s.text, edits)
		if e != api.OK {
			t.Fatalf("Apply: %d", e)
		}
		fill(text, '!')
		s.leftAlone(t, "who writes to the answer of Apply")
	}
	// An empty text could tempt to keep New itself.
	put := []api.Edit{{New: s.bytes[3:9]}}
	for _, empty := range [][]byte{nil, {}, s.bytes[:0], s.bytes[:0:0]} {
		text, _ := change.Apply(empty, put)
		fill(text, '!')
		s.leftAlone(t, "who writes to the answer of Apply to nothing")
	}
	ownMemory(t, "Invert", s, change.Invert(s.edits))
	ownMemory(t, "Invert of the whole", s, change.Invert(s.whole))
	ownMemory(t, "Trim", s, change.Trim(s.edits))
	ownMemory(t, "Trim of the whole", s, change.Trim(s.whole))
	ownMemory(t, "Trim of what stays as it is", s, change.Trim(s.edits[:1]))
	ownMemory(t, "Between", s, change.Between(s.bytes[:6], s.bytes[6:12]))
	ownMemory(t, "Between of nothing", s, change.Between(nil, s.bytes[6:12]))
}

// Nothing is kept: what is written to the arguments behind a call leaves its answer alone, and the same call answers the same.
func TestNothingIsKept(t *testing.T) {
	s := newStore()
	text, _ := change.Apply(s.text, s.edits)
	back, less, one := change.Invert(s.edits), change.Trim(s.edits), change.Between(s.text, s.bytes[2:12])
	wantBack, wantLess, wantOne := asSwaps(back), asSwaps(less), asSwaps(one)
	fill(s.bytes, '?')
	clear(s.whole)
	if string(text) != "acdcdZZefgh" {
		t.Errorf("the text is %q", text)
	}
	s = newStore()
	for range 2 {
		sameEdits(t, "Invert", back, wantBack)
		sameEdits(t, "Trim", less, wantLess)
		sameEdits(t, "Between", one, wantOne)
		back, less, one = change.Invert(s.edits), change.Trim(s.edits), change.Between(s.text, s.bytes[2:12])
	}
}
