package class_test

import (
	"bytes"
	"slices"
	"testing"

	"quoin/api"
	"quoin/class"
)

// A pair is what Partner answers; so it can be held against another.
type pair struct {
	other     byte
	opens, ok bool
}

func paired(other byte, opens, ok bool) pair { return pair{other, opens, ok} }

// bothSizes are the two ways in which words are told apart.
func bothSizes() []bool { return []bool{false, true} }

func TestKindsAreTheirNumbers(t *testing.T) {
	kinds := []int{class.Blank, class.Punct, class.Word, class.Break}
	if !slices.Equal(kinds, []int{0, 1, 2, 3}) {
		t.Errorf("the kinds are %v", kinds)
	}
}

// The bytes right ahead of and right behind each row of letters and digits are there too.
func TestOfByHand(t *testing.T) {
	for _, c := range []struct {
		b          byte
		plain, big int
	}{
		{'x', 2, 2}, {'.', 1, 2}, {10, 3, 3}, {0, 1, 2}, {200, 2, 2}, {13, 1, 2},
		{' ', 0, 0}, {9, 0, 0}, {8, 1, 2}, {11, 1, 2}, {12, 1, 2}, {31, 1, 2}, {33, 1, 2},
		{'a', 2, 2}, {'z', 2, 2}, {'`', 1, 2}, {'{', 1, 2},
		{'A', 2, 2}, {'Z', 2, 2}, {'@', 1, 2}, {'[', 1, 2},
		{'0', 2, 2}, {'9', 2, 2}, {'/', 1, 2}, {':', 1, 2},
		{'_', 2, 2}, {'^', 1, 2}, {'-', 1, 2},
		{127, 1, 2}, {128, 2, 2}, {0x85, 2, 2}, {0xa0, 2, 2}, {255, 2, 2},
	} {
		if plain, big := class.Of(c.b, false), class.Of(c.b, true); plain != c.plain || big != c.big {
			t.Errorf("Of(%d) = %d, big %d; want %d, big %d", c.b, plain, big, c.plain, c.big)
		}
	}
}

func TestLettersByHand(t *testing.T) {
	for _, c := range []struct {
		b, upper, lower, toggle byte
	}{
		{'a', 'A', 'a', 'A'}, {'m', 'M', 'm', 'M'}, {'z', 'Z', 'z', 'Z'},
		{'A', 'A', 'a', 'a'}, {'M', 'M', 'm', 'm'}, {'Z', 'Z', 'z', 'z'},
		{'_', '_', '_', '_'}, {'@', '@', '@', '@'}, {'[', '[', '[', '['}, {'`', '`', '`', '`'}, {'{', '{', '{', '{'},
		{'7', '7', '7', '7'}, {' ', ' ', ' ', ' '}, {10, 10, 10, 10}, {0, 0, 0, 0}, {228, 228, 228, 228}, {196, 196, 196, 196}, {255, 255, 255, 255},
	} {
		if upper, lower, toggle := class.Upper(c.b), class.Lower(c.b), class.Toggle(c.b); upper != c.upper || lower != c.lower || toggle != c.toggle {
			t.Errorf("%d: Upper %d, Lower %d, Toggle %d; want %d, %d, %d", c.b, upper, lower, toggle, c.upper, c.lower, c.toggle)
		}
	}
}

func TestPartnerByHand(t *testing.T) {
	for _, c := range []struct {
		b    byte
		want pair
	}{
		{'(', pair{')', true, true}}, {')', pair{'(', false, true}},
		{'[', pair{']', true, true}}, {']', pair{'[', false, true}},
		{'{', pair{'}', true, true}}, {'}', pair{'{', false, true}},
		{'<', pair{}}, {'>', pair{}}, {'\'', pair{}}, {'*', pair{}}, {'\\', pair{}}, {'|', pair{}}, {'a', pair{}}, {0, pair{}}, {10, pair{}}, {255, pair{}},
	} {
		if p := paired(class.Partner(c.b)); p != c.want {
			t.Errorf("Partner(%d) = %v; want %v", c.b, p, c.want)
		}
	}
}

func TestRunsByHand(t *testing.T) {
	for _, c := range []struct {
		text       string
		plain, big []int
	}{
		{"ab, c\n", []int{2, 3, 4, 5, 6}, []int{3, 4, 5, 6}},
		{"", nil, nil}, {"a", []int{1}, []int{1}}, {"\n", []int{1}, []int{1}}, {" ", []int{1}, []int{1}},
		{"\n\n\n", []int{3}, []int{3}}, {" \t \t", []int{4}, []int{4}}, {"a.b.", []int{1, 2, 3, 4}, []int{4}},
		{"a\n\nb", []int{1, 3, 4}, []int{1, 3, 4}}, {" \n ", []int{1, 2, 3}, []int{1, 2, 3}},
		{"\r\n", []int{1, 2}, []int{1, 2}}, {"a_9Z\x80\xff", []int{6}, []int{6}}, {"(){}\x00", []int{5}, []int{5}}, {"x\x00", []int{1, 2}, []int{2}},
	} {
		if l := class.Runs([]byte(c.text), false); !slices.Equal(l, c.plain) {
			t.Errorf("Runs(%q) = %v; want %v", c.text, l, c.plain)
		}
		if l := class.Runs([]byte(c.text), true); !slices.Equal(l, c.big) {
			t.Errorf("Runs(%q, big) = %v; want %v", c.text, l, c.big)
		}
	}
}

// P6.1 of the calls that take a byte.
func TestEveryByteToItsWords(t *testing.T) {
	for n := range 256 {
		b := byte(n)
		for _, big := range bothSizes() {
			if kind, want := class.Of(b, big), wordOf(b, big); kind != want {
				t.Errorf("Of(%d, %v) = %d; want %d", b, big, kind, want)
			}
		}
		if upper, want := class.Upper(b), wordUpper(b); upper != want {
			t.Errorf("Upper(%d) = %d; want %d", b, upper, want)
		}
		if lower, want := class.Lower(b), wordLower(b); lower != want {
			t.Errorf("Lower(%d) = %d; want %d", b, lower, want)
		}
		if toggle, want := class.Toggle(b), wordToggle(b); toggle != want {
			t.Errorf("Toggle(%d) = %d; want %d", b, toggle, want)
		}
		if p, want := paired(class.Partner(b)), paired(wordPartner(b)); p != want {
			t.Errorf("Partner(%d) = %v; want %v", b, p, want)
		}
	}
}

// P6.2 of the letters.
func TestSizesOfLetters(t *testing.T) {
	letters := 0
	for n := range 256 {
		b := byte(n)
		if back := class.Toggle(class.Toggle(b)); back != b {
			t.Errorf("Toggle of Toggle(%d) = %d", b, back)
		}
		if class.Upper(class.Lower(b)) != class.Upper(b) || class.Lower(class.Upper(b)) != class.Lower(b) {
			t.Errorf("%d: Upper(Lower) %d, Upper %d, Lower(Upper) %d, Lower %d", b, class.Upper(class.Lower(b)), class.Upper(b), class.Lower(class.Upper(b)), class.Lower(b))
		}
		if class.Toggle(b) == b {
			continue
		}
		letters++
		for _, big := range bothSizes() {
			if class.Of(b, big) != class.Of(class.Toggle(b), big) {
				t.Errorf("%d and %d are of two kinds", b, class.Toggle(b))
			}
		}
	}
	if letters != 52 {
		t.Errorf("%d bytes have another size", letters)
	}
}

// P6.2 of the brackets.
func TestPartnersOfPartners(t *testing.T) {
	brackets := 0
	for n := range 256 {
		b := byte(n)
		p := paired(class.Partner(b))
		if !p.ok {
			continue
		}
		brackets++
		if back := paired(class.Partner(p.other)); back.other != b || !back.ok || back.opens == p.opens {
			t.Errorf("Partner(%d) = %v, and of that %v", b, p, back)
		}
	}
	if brackets != 6 {
		t.Errorf("%d bytes have a partner", brackets)
	}
}

// heldToWords: P6.1 of Runs.
func heldToWords(t *testing.T, text []byte) {
	t.Helper()
	for _, big := range bothSizes() {
		if l, want := class.Runs(text, big), wordRuns(text, big); !slices.Equal(l, want) {
			t.Fatalf("Runs(%q, %v) = %v; want %v", text, big, l, want)
		}
	}
}

// wholeRuns: P6.3 of one way to tell words apart.
func wholeRuns(t *testing.T, text []byte, big bool) {
	t.Helper()
	from := 0
	for _, end := range class.Runs(text, big) {
		if end <= from || end > len(text) {
			t.Fatalf("Runs(%q, %v): an end %d behind %d", text, big, end, from)
		}
		kind := class.Of(text[from], big)
		for _, b := range text[from:end] {
			if class.Of(b, big) != kind {
				t.Fatalf("Runs(%q, %v): two kinds from %d to %d", text, big, from, end)
			}
		}
		if end < len(text) && class.Of(text[end], big) == kind {
			t.Fatalf("Runs(%q, %v): one kind about %d", text, big, end)
		}
		from = end
	}
	if from != len(text) {
		t.Fatalf("Runs(%q, %v): the last one is %d", text, big, from)
	}
}

func heldWhole(t *testing.T, text []byte) {
	t.Helper()
	heldToWords(t, text)
	wholeRuns(t, text, false)
	wholeRuns(t, text, true)
	if plain, big := len(class.Runs(text, false)), len(class.Runs(text, true)); big > plain {
		t.Fatalf("Runs(%q): %d, with big %d", text, plain, big)
	}
}

// eachText calls do with every text of these bytes up to this length.
func eachText(alphabet string, length int, do func(text []byte)) {
	text := make([]byte, 0, length)
	var grow func()
	grow = func() {
		do(text)
		if len(text) == length {
			return
		}
		for i := 0; i < len(alphabet); i++ {
			text = append(text, alphabet[i])
			grow()
			text = text[:len(text)-1]
		}
	}
	grow()
}

func TestEveryShortText(t *testing.T) {
	eachText("a. \n", 7, func(text []byte) { heldWhole(t, text) })
	eachText("aZ_\x80.\r \t\n", 4, func(text []byte) { heldWhole(t, text) })
}

func TestEveryTwoBytes(t *testing.T) {
	for a := range 256 {
		for b := range 256 {
			heldWhole(t, []byte{byte(a), byte(b)})
		}
	}
}

// A picker is a plain row of numbers, the same in every run.
type picker uint64

func (p *picker) below(n int) int {
	*p = *p*6364136223846793005 + 1442695040888963407
	return int(uint64(*p)>>33) % n
}

// text has runs of some length, as bytes picked one by one have few.
func (p *picker) text(length int) []byte {
	text := make([]byte, 0, length)
	for len(text) < length {
		set := []string{blanks, "\n", small + great + digits, ".,;\x00\r\x7f", "\x80\xa0\xff_"}[p.below(5)]
		for range 1 + p.below(5) {
			text = append(text, set[p.below(len(set))])
		}
	}
	return text[:length]
}

func TestPickedTexts(t *testing.T) {
	p := picker(6)
	for range 400 {
		heldWhole(t, p.text(p.below(120)))
	}
}

// A text may be longer than what a machine holds: class has no limit of its own.
func TestGreatTexts(t *testing.T) {
	p := picker(8)
	size := api.MaxText + 100
	heldWhole(t, p.text(size))
	for _, part := range []string{"\n", " ", "a", ".", "a.", "a \n"} {
		heldWhole(t, bytes.Repeat([]byte(part), size/len(part)))
	}
}

func TestNilIsTheEmptyText(t *testing.T) {
	heldWhole(t, nil)
	heldWhole(t, []byte{})
	for _, big := range bothSizes() {
		if l := class.Runs(nil, big); len(l) != 0 {
			t.Errorf("Runs(nil, %v) = %v", big, l)
		}
	}
}

func TestTextIsLeftAlone(t *testing.T) {
	for _, text := range []string{"", "a", "\n", "ab, c\n", " . "} {
		whole := append([]byte(text), "a b\n.spare"...)
		before := bytes.Clone(whole)
		heldWhole(t, whole[:len(text)])
		if !bytes.Equal(whole, before) {
			t.Errorf("%q: the text or its spare room is now %q", text, whole)
		}
	}
}

// Two answers share no memory, up to the end of their room.
func TestRunsShareNothing(t *testing.T) {
	text := []byte("ab, c\n\nd e.f")
	one, two := class.Runs(text, false), class.Runs(text, false)
	room := one[:cap(one)]
	for i := range room {
		room[i] = -1
	}
	if want := wordRuns(text, false); !slices.Equal(two, want) || !slices.Equal(class.Runs(text, false), want) {
		t.Errorf("another answer is now %v; want %v", two, want)
	}
}
