package pins_test

import (
	"bytes"
	"math"
	"slices"
	"strings"
	"testing"

	"quoin/api"
	"quoin/pins"
)

func edit(at int, old, new string) api.Edit {
	return api.Edit{At: at, Old: []byte(old), New: []byte(new)}
}

// none is a row in which no mark is set.
func none() row {
	var r row
	for i := range r {
		r[i] = -1
	}
	return r
}

// all is a row in which every mark is at x.
func all(x int) row {
	var r row
	for i := range r {
		r[i] = x
	}
	return r
}

// apart is a row in which no two marks have the same number.
func apart(first int) row {
	var r row
	for i := range r {
		r[i] = first + i
	}
	return r
}

// ends are numbers about the bounds of what the calls tell apart, and at both ends of an int.
func ends() []int {
	return []int{math.MinInt, math.MinInt + 1, math.MinInt + 5, math.MinInt32, -70000, -3, -2, -1, 0, 1, 2, 3, 4, 5, 6, 7, 9, 65535, 65536, 65537, math.MaxInt32, math.MaxInt - 6, math.MaxInt - 5, math.MaxInt - 2, math.MaxInt - 1, math.MaxInt}
}

// rows are rows of all kinds, those among them that no Set makes.
func rows() []row {
	list := []row{{}, none(), apart(0), apart(-13), apart(65530), apart(-1)}
	for _, x := range ends() {
		one := none()
		one[3], one[25] = x, x
		list = append(list, all(x), one)
	}
	return append(list, mixed())
}

// mixed is a row that has all of the ends.
func mixed() row {
	r := all(8)
	copy(r[:], ends())
	return r
}

// texts are what an edit takes out or puts in.
func texts() []string {
	return []string{"", "a", "ab", "abc", "abcd", "a\ncde", "\x00\xff\n\n\n\n", strings.Repeat("x", 300), strings.Repeat("\n", 65536)}
}

func sameRow(t *testing.T, what string, got api.Marks, want row) {
	t.Helper()
	if asRow(got) != want {
		t.Fatalf("%s: %v; want %v", what, asRow(got), want)
	}
}

// shiftAsTold: P16.1, of Shift; Move of the one edit must be the same.
func shiftAsTold(t *testing.T, r row, e api.Edit) {
	t.Helper()
	list := []api.Edit{e}
	want := wordMove(r, list)
	if got := asRow(pins.Shift(asMarks(r), e)); got != want {
		t.Fatalf("Shift of %v by %d, %.9q, %.9q = %v; want %v", r, e.At, e.Old, e.New, got, want)
	}
	if got := asRow(pins.Move(asMarks(r), list)); got != want {
		t.Fatalf("Move of %v by %d, %.9q, %.9q = %v; want %v", r, e.At, e.Old, e.New, got, want)
	}
}

// crossAsTold: P16.1, of Cross; it answers what Cross made.
func crossAsTold(t *testing.T, now, was, made row, edits []api.Edit) row {
	t.Helper()
	got := asRow(pins.Cross(asMarks(now), asMarks(was), asMarks(made), edits))
	if want := wordCross(now, was, made, edits); got != want {
		t.Fatalf("Cross of\n%v,\n%v,\n%v by %v =\n%v; want\n%v", now, was, made, edits, got, want)
	}
	return got
}

func TestNone(t *testing.T) {
	m := pins.None()
	for i, x := range m.Names {
		if x != -1 {
			t.Errorf("the mark %q is %d", letters[i], x)
		}
	}
	if m.Back != -1 {
		t.Errorf("Back is %d", m.Back)
	}
	m.Names[4], m.Back = 7, 7
	sameRow(t, "None once more", pins.None(), none())
}

func TestNamesByExamples(t *testing.T) {
	if x, e := pins.Get(pins.None(), 'a'); x != 0 || e != api.ErrUnset {
		t.Errorf("Get of a = %d, %d", x, e)
	}
	if x, e := pins.Get(pins.None(), 'A'); x != 0 || e != api.ErrMark {
		t.Errorf("Get of A = %d, %d", x, e)
	}
	m, e := pins.Set(pins.None(), '\'', 3)
	if x, f := pins.Get(m, '`'); x != 3 || e != api.OK || f != api.OK {
		t.Errorf("Get of Back = %d, %d, %d", x, e, f)
	}
	if m, e := pins.Set(pins.None(), 'a', -1); m != (api.Marks{}) || e != api.ErrArg {
		t.Errorf("Set of a to -1 = %v, %d", m, e)
	}
	if m, e := pins.Set(pins.None(), '7', -1); m != (api.Marks{}) || e != api.ErrMark {
		t.Errorf("Set of 7 to -1 = %v, %d", m, e)
	}
	if m, e := pins.Set(pins.None(), 7, -1); m != (api.Marks{}) || e != api.ErrMark {
		t.Errorf("Set of the byte 7 to -1 = %v, %d", m, e)
	}
}

// Each name leads to the field that has it, and to no other.
func TestNamesByFields(t *testing.T) {
	m := asMarks(apart(100))
	for i := range 26 {
		name := 'a' + byte(i)
		if x, e := pins.Get(m, name); x != m.Names[i] || e != api.OK {
			t.Errorf("Get of %q = %d, %d", name, x, e)
		}
		want := m
		want.Names[i] = 5
		if got, e := pins.Set(m, name, 5); got != want || e != api.OK {
			t.Errorf("Set of %q = %v, %d", name, got, e)
		}
	}
	for _, name := range []byte("`'") {
		if x, e := pins.Get(m, name); x != m.Back || e != api.OK {
			t.Errorf("Get of %q = %d, %d", name, x, e)
		}
		want := m
		want.Back = 5
		if got, e := pins.Set(m, name, 5); got != want || e != api.OK {
			t.Errorf("Set of %q = %v, %d", name, got, e)
		}
	}
}

// The bytes that stand beside the names, and names of other things.
func TestNoNames(t *testing.T) {
	for _, name := range []byte("\x00 \"&(0159@AZ[]_^{|}~<>.\x7f\x80\xe1\xff") {
		if x, e := pins.Get(asMarks(all(4)), name); x != 0 || e != api.ErrMark {
			t.Errorf("Get of %q = %d, %d", name, x, e)
		}
		for _, at := range []int{-1, 0, 4, math.MinInt, math.MaxInt} {
			if m, e := pins.Set(asMarks(all(4)), name, at); m != (api.Marks{}) || e != api.ErrMark {
				t.Errorf("Set of %q to %d = %v, %d", name, at, m, e)
			}
		}
	}
}

// P16.1, of Set and Get: all names, marks and numbers.
func TestEverySetAndGet(t *testing.T) {
	for _, r := range rows() {
		for i := range 256 {
			name := byte(i)
			x, e := pins.Get(asMarks(r), name)
			if want, wantE := wordGet(r, name); x != want || e != wantE {
				t.Fatalf("Get of %q in %v = %d, %d; want %d, %d", name, r, x, e, want, wantE)
			}
			for _, at := range ends() {
				m, e := pins.Set(asMarks(r), name, at)
				want, wantE := wordSet(r, name, at)
				if asRow(m) != want || e != wantE {
					t.Fatalf("Set of %q to %d in %v = %v, %d; want %v, %d", name, at, r, m, e, want, wantE)
				}
				if x, f := pins.Get(m, name); e == api.OK && (x != at || f != api.OK) {
					t.Fatalf("Get of %q behind a Set to %d = %d, %d", name, at, x, f)
				}
			}
		}
	}
}

func TestShiftExamples(t *testing.T) {
	for _, c := range []struct {
		x    int
		e    api.Edit
		want int
	}{
		{5, edit(3, "ab", ""), 3}, {5, edit(3, "abc", "xy"), 5}, {5, edit(3, "abcd", "xyz"), 5},
		{5, edit(5, "", "ab"), 7}, {5, edit(6, "x", ""), 5}, {5, edit(2, "ab", "wxyz"), 7},
		// At the first byte of what is taken out it stays; right behind it, it goes along.
		{5, edit(5, "abc", ""), 5}, {5, edit(5, "abc", "wxyz"), 5}, {6, edit(5, "abc", ""), 5}, {6, edit(5, "abc", "w"), 6}, {7, edit(5, "abc", "w"), 6}, {7, edit(5, "abc", "wx"), 7}, {7, edit(5, "abc", "wxyz"), 7}, {8, edit(5, "abc", ""), 5}, {8, edit(5, "abc", "wxyz"), 9}, {9, edit(5, "abc", "w"), 7},
		// Nothing is done, and nothing is moved; what is put in the place of the same stays as well.
		{5, edit(5, "", ""), 5}, {5, edit(0, "", ""), 5}, {5, edit(3, "abcd", "abcd"), 5},
		{0, edit(0, "", "a"), 1}, {0, edit(0, "a", ""), 0}, {0, edit(1, "a", "b"), 0}, {0, edit(1, "", "b"), 0}, {4, edit(5, "", "ab"), 4},
		// A number below 0 isn't a place, whatever it is.
		{-1, edit(0, "", "a"), -1}, {-1, edit(-1, "", "a"), -1}, {-1, edit(-9, "abc", "a"), -1}, {-2, edit(-2, "ab", ""), -2}, {-1, edit(-2, "abc", ""), -1}, {math.MinInt, edit(math.MinInt, "a", ""), math.MinInt}, {math.MinInt, edit(math.MinInt, "", "a"), math.MinInt},
		// An edit ahead of all places: a mark may come to a number below 0.
		{0, edit(-3, "", "ab"), 2}, {0, edit(-3, "ab", ""), -2}, {1, edit(-3, "abcde", "x"), -2}, {1, edit(-3, "abcde", "uvwxyz"), 1}, {2, edit(-3, "abcde", "uvwxyz"), 3},
		// At the ends of an int.
		{math.MaxInt, edit(0, "", "a"), math.MinInt}, {math.MaxInt, edit(math.MaxInt, "", "ab"), math.MinInt + 1}, {math.MaxInt, edit(math.MaxInt, "ab", ""), math.MaxInt - 2}, {math.MaxInt, edit(math.MaxInt, "ab", "c"), math.MaxInt - 1}, {math.MaxInt - 1, edit(math.MaxInt-1, "a", "bcd"), math.MaxInt - 1}, {math.MaxInt - 1, edit(math.MaxInt, "a", ""), math.MaxInt - 1}, {0, edit(math.MinInt, "a", ""), -1}, {0, edit(math.MinInt, "", "a"), 1},
	} {
		for i := range 27 {
			r := none()
			r[i] = c.x
			want := none()
			want[i] = c.want
			if got := asRow(pins.Shift(asMarks(r), c.e)); got != want {
				t.Errorf("Shift of the mark %d at %d by %d, %q, %q = %v; want %d", i, c.x, c.e.At, c.e.Old, c.e.New, got, c.want)
			}
		}
		shiftAsTold(t, all(c.x), c.e)
	}
}

// P16.1, of Shift: every mark about every small edit.
func TestEverySmallShift(t *testing.T) {
	for at := -5; at <= 12; at++ {
		for o := range 8 {
			for n := range 8 {
				e := edit(at, strings.Repeat("o", o), strings.Repeat("n", n))
				shiftAsTold(t, apart(-9), e)
				shiftAsTold(t, apart(0), e)
			}
		}
	}
}

func TestEveryGreatShift(t *testing.T) {
	for _, r := range []row{mixed(), apart(-13), apart(65530), apart(131060)} {
		for _, at := range ends() {
			for _, old := range texts() {
				for _, new := range texts() {
					shiftAsTold(t, r, edit(at, old, new))
				}
			}
		}
	}
}

// What an edit puts in and takes out counts by the number of its bytes alone.
func TestShiftByBytesAlone(t *testing.T) {
	for at := range 9 {
		for o := range 6 {
			for n := range 6 {
				one := pins.Shift(asMarks(apart(0)), edit(at, "\n\n\n\n\n\n"[:o], "\xe2\x82\xac\x00\xff\n"[:n]))
				two := pins.Shift(asMarks(apart(0)), edit(at, "abcdef"[:o], "abcdef"[:n]))
				sameRow(t, "the same numbers of other bytes", one, asRow(two))
			}
		}
	}
}

func TestMoveExamples(t *testing.T) {
	r := none()
	r[0], r[1], r[26] = 4, 8, 2
	for _, c := range []struct {
		edits   []api.Edit
		a, b, k int
	}{
		{nil, 4, 8, 2}, {[]api.Edit{}, 4, 8, 2}, {[]api.Edit{{}}, 4, 8, 2},
		{[]api.Edit{edit(2, "abcd", ""), edit(0, "", "xy")}, 4, 6, 4},
		// In the other order the same two edits meet other bytes.
		{[]api.Edit{edit(0, "", "xy"), edit(2, "abcd", "")}, 2, 6, 2},
		{[]api.Edit{edit(4, "", "x"), edit(4, "", "x"), edit(4, "", "x")}, 7, 11, 2},
		{[]api.Edit{edit(0, "123456789", ""), edit(0, "", "123456789")}, 9, 9, 9},
		// The first edit brings Back below 0, so that the second one leaves it there.
		{[]api.Edit{edit(-1, "xyz", ""), edit(0, "", "ab")}, 3, 7, -1},
		{[]api.Edit{edit(-9, "wxyz", ""), edit(-9, "", "abcdef")}, 6, 10, -2},
	} {
		want := none()
		want[0], want[1], want[26] = c.a, c.b, c.k
		sameRow(t, "Move", pins.Move(asMarks(r), c.edits), want)
		sameRow(t, "Move by the words", asMarks(wordMove(r, c.edits)), want)
	}
}

// A picker is a plain row of numbers, the same in every run.
type picker uint64

func (p *picker) below(n int) int {
	*p = *p*6364136223846793005 + 1442695040888963407
	return int(uint64(*p)>>33) % n
}

// among is one of the list.
func (p *picker) among(list []int) int { return list[p.below(len(list))] }

func (p *picker) text(most int) string {
	text := make([]byte, p.below(most+1))
	for i := range text {
		text[i] = "ab \n\x00\xff"[p.below(6)]
	}
	return string(text)
}

// edits are such as may fit no text.
func (p *picker) edits(most int) []api.Edit {
	var list []api.Edit
	for range p.below(most + 1) {
		at := p.below(30) - 4
		if p.below(6) == 0 {
			at = p.among(ends())
		}
		list = append(list, edit(at, p.text(9), p.text(9)))
	}
	return list
}

// fitting are edits that fit the text.
func (p *picker) fitting(text string, most int) []api.Edit {
	var list []api.Edit
	for range p.below(most + 1) {
		at := p.below(len(text) + 1)
		end := at + p.below(min(len(text)-at, 9)+1)
		if p.below(9) == 0 {
			end = len(text)
		}
		e := edit(at, text[at:end], p.text(9))
		list = append(list, e)
		text, _ = behindAll(text, []api.Edit{e})
	}
	return list
}

func (p *picker) row() row {
	var r row
	for i := range r {
		r[i] = p.below(34) - 3
		if p.below(9) == 0 {
			r[i] = p.among(ends())
		}
	}
	return r
}

// within is a row that fits a text of so many bytes.
func (p *picker) within(size int) row {
	var r row
	for i := range r {
		r[i] = p.below(size+2) - 1
	}
	r[p.below(27)], r[p.below(27)] = size, 0
	return r
}

// P16.2: one list and then another is both in one, wherever the list is cut.
func TestMoveOfListsPutTogether(t *testing.T) {
	p := picker(16)
	for range 2000 {
		m, edits := asMarks(p.row()), p.edits(9)
		whole := pins.Move(m, edits)
		sameRow(t, "Move", whole, wordMove(asRow(m), edits))
		for i := range len(edits) + 1 {
			two := pins.Move(pins.Move(m, edits[:i]), edits[i:])
			sameRow(t, "Move of one list and then another", two, asRow(whole))
		}
		step := m
		for _, e := range edits {
			step = pins.Shift(step, e)
		}
		sameRow(t, "Shift by each", step, asRow(whole))
	}
}

// P16.2: marks that fit a text fit the one behind the edits.
func TestMovedMarksFit(t *testing.T) {
	p := picker(2)
	for range 4000 {
		text := p.text(24)
		edits := p.fitting(text, 6)
		behind, ok := behindAll(text, edits)
		if !ok {
			t.Fatal("edits that should fit don't")
		}
		r := p.within(len(text))
		m := pins.Move(asMarks(r), edits)
		if !pins.Fit(asMarks(r), len(text)) || !pins.Fit(m, len(behind)) || !wordFit(asRow(m), len(behind)) {
			t.Fatalf("%v, moved by %v from %d bytes to %d: %v", r, edits, len(text), len(behind), m)
		}
		for i, x := range asRow(m) {
			if (x == -1) != (r[i] == -1) {
				t.Fatalf("the mark %d was %d and is %d", i, r[i], x)
			}
		}
	}
}

// A mark stays with the byte that it stands ahead of: by every edit of a text whose bytes are all different.
func TestMarksStayWithTheText(t *testing.T) {
	const text = "abcdefgh"
	for at := range len(text) + 1 {
		for end := at; end <= len(text); end++ {
			for n := range 5 {
				e := edit(at, text[at:end], "WXYZ"[:n])
				behind, _ := behindAll(text, []api.Edit{e})
				for x := range len(text) {
					got := pins.Shift(asMarks(all(x)), e).Names[7]
					if found := strings.IndexByte(behind, text[x]); found >= 0 && got != found {
						t.Errorf("the mark at %d, by %d, %q, %q, is at %d; its byte is at %d", x, at, e.Old, e.New, got, found)
					} else if found < 0 && (got < at || got > at+n) {
						t.Errorf("the mark at %d, by %d, %q, %q, is at %d", x, at, e.Old, e.New, got)
					}
				}
				if got := pins.Shift(asMarks(all(len(text))), e).Back; got != len(behind) {
					t.Errorf("the mark at the text's length is at %d of %d", got, len(behind))
				}
			}
		}
	}
}

// The document's sixth example, in marks: b is at 2 of a⏎b, and the first line is taken out and put back.
func TestUndoneAsInTheDocument(t *testing.T) {
	was, _ := pins.Set(pins.None(), 'b', 2)
	edits := []api.Edit{edit(0, "a\n", "")}
	made := pins.Move(was, edits)
	if x, e := pins.Get(made, 'b'); x != 0 || e != api.OK {
		t.Errorf("behind dd b is at %d, %d", x, e)
	}
	sameRow(t, "behind u", pins.Cross(made, was, made, takenBack(edits)), asRow(was))
}

// Each mark goes by itself: one that has the number that made has goes back, and no other.
func TestCrossEachByItself(t *testing.T) {
	edits := []api.Edit{edit(0, "", "xyz")}
	for i := range 27 {
		now, made := apart(50), apart(100)
		made[i] = now[i]
		want := apart(53)
		want[i] = 200 + i
		if got := crossAsTold(t, now, apart(200), made, edits); got != want {
			t.Errorf("with the mark %d where it was made: %v", i, got)
		}
		now, made = apart(50), apart(50)
		made[i] = 9
		want = apart(200)
		want[i] = 53 + i
		if got := crossAsTold(t, now, apart(200), made, edits); got != want {
			t.Errorf("with all but the mark %d where they were made: %v", i, got)
		}
	}
}

// Marks that aren't set are held against each other by their numbers too.
func TestCrossOfUnset(t *testing.T) {
	edits := []api.Edit{edit(0, "", "xyz")}
	for _, c := range []struct{ now, was, made, want int }{
		{-1, 4, -1, 4}, {-1, -1, -1, -1}, {-1, -7, -1, -7}, {-1, 4, -2, -1}, {-2, 4, -1, -2}, {-2, 4, -2, 4}, {5, -1, 5, -1}, {5, -1, 6, 8}, {5, 6, 6, 8}, {0, -1, -1, 3}, {-1, 0, 0, -1}, {5, 5, 8, 8}, {8, 5, 8, 5}, {math.MinInt, math.MaxInt, math.MinInt, math.MaxInt}, {math.MaxInt, 1, math.MinInt, math.MinInt + 2},
	} {
		if got := crossAsTold(t, all(c.now), all(c.was), all(c.made), edits); got != all(c.want) {
			t.Errorf("Cross of %d, %d, %d = %d; want %d", c.now, c.was, c.made, got[0], c.want)
		}
	}
}

// P16.1, of Cross, for all kinds of numbers.
func TestEveryCross(t *testing.T) {
	p := picker(8)
	for _, now := range rows() {
		for _, made := range rows() {
			crossAsTold(t, now, p.row(), made, p.edits(2))
			crossAsTold(t, now, made, now, p.edits(2))
		}
	}
	for range 3000 {
		now, was, made := p.row(), p.row(), p.row()
		for i := range now {
			if p.below(2) == 0 {
				made[i] = now[i]
			}
		}
		crossAsTold(t, now, was, made, p.edits(5))
	}
}

// P16.3: there and back, whatever the marks and the edits are.
func TestThereAndBack(t *testing.T) {
	p := picker(3)
	for range 3000 {
		was, edits := p.row(), p.edits(6)
		if p.below(2) == 0 {
			text := p.text(24)
			was, edits = p.within(len(text)), p.fitting(text, 6)
		}
		made := pins.Move(asMarks(was), edits)
		back := takenBack(edits)
		sameRow(t, "there and back", pins.Cross(made, asMarks(was), made, back), was)
		sameRow(t, "and there again", pins.Cross(asMarks(was), made, asMarks(was), edits), asRow(made))
	}
}

// P16.3: a mark that was set in the meantime, to another number, is moved; the others find back.
func TestSetInTheMeantime(t *testing.T) {
	p := picker(33)
	for range 1000 {
		text := p.text(24)
		was, edits := p.within(len(text)), p.fitting(text, 6)
		behind, _ := behindAll(text, edits)
		made := pins.Move(asMarks(was), edits)
		for i := range letters + "'" {
			name, at := (letters + "'")[i], p.below(len(behind)+1)
			now, e := pins.Set(made, name, at)
			if e != api.OK {
				t.Fatalf("Set of %q: %d", name, e)
			}
			want := was
			if at != asRow(made)[i] {
				want[i] = wordMoveOne(at, takenBack(edits))
			}
			got := pins.Cross(now, asMarks(was), made, takenBack(edits))
			sameRow(t, "with one mark set in the meantime", got, want)
			if !pins.Fit(got, len(text)) {
				t.Fatalf("%v doesn't fit %d bytes", got, len(text))
			}
		}
	}
}

func TestClipAndFitExamples(t *testing.T) {
	m := pins.None()
	m.Names[0], m.Names[2], m.Back = 5, -1, 9
	want := m
	want.Back = 7
	if got := pins.Clip(m, 7); got != want || !pins.Fit(got, 7) || pins.Fit(m, 7) {
		t.Errorf("Clip of 5, -1 and 9 to 7: %v", got)
	}
	for _, c := range []struct{ x, size, want int }{
		{7, 7, 7}, {8, 7, 7}, {6, 7, 6}, {0, 0, 0}, {1, 0, 0}, {-1, 0, -1}, {-2, 0, -1}, {-2, 9, -1}, {math.MinInt, 9, -1}, {math.MaxInt, 9, 9}, {math.MaxInt, math.MaxInt, math.MaxInt}, {3, -1, 0}, {0, -1, 0}, {-1, -1, -1}, {-3, -2, -1}, {3, math.MinInt, 0}, {-3, math.MinInt, -1}, {65536, 65536, 65536}, {65537, 65536, 65536},
	} {
		for i := range 27 {
			r, want := none(), none()
			r[i], want[i] = c.x, c.want
			sameRow(t, "Clip of one mark", pins.Clip(asMarks(r), c.size), want)
			if fit := c.size >= 0 && c.x == c.want || c.x == -1; pins.Fit(asMarks(r), c.size) != fit {
				t.Errorf("Fit of the mark %d at %d to %d is %v", i, c.x, c.size, !fit)
			}
		}
	}
}

// Marks that aren't set fit a size below 0 too, and nothing else does.
func TestFitBelowNought(t *testing.T) {
	for _, size := range []int{-1, -2, -70000, math.MinInt} {
		if !pins.Fit(pins.None(), size) {
			t.Errorf("None doesn't fit %d", size)
		}
		for _, x := range []int{math.MinInt, -3, -2, 0, 1, math.MaxInt} {
			for i := range 27 {
				r := none()
				r[i] = x
				if pins.Fit(asMarks(r), size) {
					t.Errorf("the mark %d at %d fits %d", i, x, size)
				}
			}
		}
	}
}

// P16.1, of Clip and Fit: all kinds of marks and sizes; what is clipped fits every size from 0 on, and clipped again it stays.
func TestEveryClipAndFit(t *testing.T) {
	for _, r := range rows() {
		for _, size := range ends() {
			got := pins.Clip(asMarks(r), size)
			sameRow(t, "Clip", got, wordClip(r, size))
			sameRow(t, "Clip of Clip", pins.Clip(got, size), asRow(got))
			if size >= 0 && !pins.Fit(got, size) || !pins.Fit(got, max(size, 0)) {
				t.Fatalf("%v, clipped to %d, doesn't fit", r, size)
			}
			fit := pins.Fit(asMarks(r), size)
			if fit != wordFit(r, size) {
				t.Fatalf("Fit of %v to %d is %v", r, size, fit)
			}
			if fit && size >= 0 && asRow(got) != r {
				t.Fatalf("%v fits %d, but is clipped to %v", r, size, got)
			}
		}
	}
}

// What is handed in isn't changed, nor is its spare room.
func TestHandedInIsLeftAlone(t *testing.T) {
	memory := []byte("one text for all the edits")
	list := make([]api.Edit, 0, 12)
	for i := range 12 {
		list = append(list, api.Edit{At: i - 2, Old: memory[i : 2*i], New: memory[3 : 15-i]})
	}
	edits := list[:9]
	before, same := bytes.Clone(memory), slices.Clone(list)
	m := asMarks(apart(-3))
	kept := m
	for range 2 {
		pins.Shift(m, edits[4])
		pins.Move(m, edits)
		pins.Cross(m, m, asMarks(apart(-5)), edits)
		pins.Set(m, 'c', 1)
		pins.Clip(m, 4)
	}
	if !bytes.Equal(memory, before) || m != kept {
		t.Errorf("written: %q, %v", memory, m)
	}
	for i, e := range list {
		if e.At != same[i].At || !bytes.Equal(e.Old, same[i].Old) || !bytes.Equal(e.New, same[i].New) {
			t.Errorf("the edit %d is %v; it was %v", i, e, same[i])
		}
	}
}

// nil and empty are one and the same.
func TestNilIsEmpty(t *testing.T) {
	for _, r := range rows() {
		m := asMarks(r)
		sameRow(t, "Move by nil", pins.Move(m, nil), r)
		sameRow(t, "Move by no edits", pins.Move(m, []api.Edit{}), r)
		other := asMarks(apart(70))
		sameRow(t, "Cross by nil", pins.Cross(m, other, m, nil), asRow(other))
		for _, at := range ends() {
			one := pins.Shift(m, api.Edit{At: at, New: []byte("ab")})
			sameRow(t, "Old is nil", one, asRow(pins.Shift(m, edit(at, "", "ab"))))
			two := pins.Shift(m, api.Edit{At: at, Old: []byte("ab")})
			sameRow(t, "New is nil", two, asRow(pins.Shift(m, edit(at, "ab", ""))))
			sameRow(t, "both are nil", pins.Shift(m, api.Edit{At: at}), r)
		}
	}
}

// Many edits: no call ends early, and none goes deeper with their number.
func TestManyEdits(t *testing.T) {
	edits := slices.Repeat([]api.Edit{edit(5, "", "ab"), edit(5, "a", "")}, 100000)
	r := none()
	r[0], r[1] = 4, 5
	want := r
	want[1] = 100005
	sameRow(t, "Move", pins.Move(asMarks(r), edits), want)
	want[0] = 3
	was := none()
	was[0] = 3
	made := none()
	made[0] = 4
	sameRow(t, "Cross", pins.Cross(asMarks(r), asMarks(was), asMarks(made), edits), want)
}

// Nothing is kept: the same call answers the same, whatever was called in between.
func TestNothingIsKept(t *testing.T) {
	m, e := asMarks(apart(-3)), edit(3, "abc", "x")
	first := pins.Shift(m, e)
	pins.Set(first, 'a', 99)
	pins.Cross(m, first, m, []api.Edit{e})
	pins.Clip(first, 2)
	if again := pins.Shift(m, e); again != first {
		t.Errorf("%v; it was %v", again, first)
	}
	if x, err := pins.Get(m, 'a'); x != 0 || err != api.ErrUnset {
		t.Errorf("a is at %d, %d", x, err)
	}
}
