package bank_test

import (
	"bytes"
	"math"
	"strings"
	"testing"

	"quoin/api"
	"quoin/bank"
)

const (
	yanked  = api.Yanked
	deleted = api.Deleted
	small   = api.Small
)

func plain(text string) content { return content{set: true, text: text} }
func whole(text string) content { return content{set: true, lines: true, text: text} }

func asReg(c content) api.Reg {
	return api.Reg{Set: c.set, Lines: c.lines, Text: []byte(c.text)}
}

func asBank(s shelf) api.Bank {
	b := api.Bank{Unnamed: asReg(s['"']), Small: asReg(s['-'])}
	for i := range numberNames {
		b.Numbers[i] = asReg(s[numberNames[i]])
	}
	for i := range letterNames {
		b.Names[i] = asReg(s[letterNames[i]])
	}
	return b
}

// full is a shelf in which each register holds its own name.
func full() shelf {
	var s shelf
	for i := range placeNames {
		s[placeNames[i]] = plain(placeNames[i : i+1])
	}
	return s
}

// isNothing: whether a bank is what a refused Put answers.
func isNothing(b api.Bank) bool { return asShelf(b) == shelf{} }

// getAsTold: P15.1, of Get, for all names.
func getAsTold(t *testing.T, s shelf) {
	t.Helper()
	b := asBank(s)
	for i := range 256 {
		name := byte(i)
		r, e := bank.Get(b, name)
		if want, wantE := wordGet(s, name); asContent(r) != want || e != wantE {
			t.Fatalf("Get of %q in %s = %.99q, %d; want %.99q, %d", name, told(s), r.Text, e, want.text, wantE)
		}
	}
}

// putAsTold: P15.1, of Put; it answers what Put made.
func putAsTold(t *testing.T, s shelf, name byte, how int, c content) (shelf, api.Errno) {
	t.Helper()
	b, e := bank.Put(asBank(s), name, how, asReg(c))
	got := asShelf(b)
	if want, wantE := wordPut(s, name, how, c); got != want || e != wantE {
		t.Fatalf("Put of %.99q (lines %v) to %q, how %d, in %s = %s, %d; want %s, %d", c.text, c.lines, name, how, told(s), told(got), e, told(want), wantE)
	}
	return got, e
}

// told is a shelf as a text, without what is empty.
func told(s shelf) string {
	var w strings.Builder
	for i := range placeNames {
		c := s[placeNames[i]]
		if c == (content{}) {
			continue
		}
		w.WriteString(" " + placeNames[i:i+1])
		if !c.set {
			w.WriteString(" unset")
		}
		if c.lines {
			w.WriteString(" lines")
		}
		w.WriteString(":" + c.text[:min(len(c.text), 20)])
	}
	return "{" + w.String() + "}"
}

func TestValid(t *testing.T) {
	const names = "\x00\"-123456789abcdefghijklmnopqrstuvwxyzABCDEFGHIJKLMNOPQRSTUVWXYZ"
	for i := range 256 {
		name := byte(i)
		if want := strings.IndexByte(names, name) >= 0; bank.Valid(name) != want {
			t.Errorf("Valid(%q) = %v", name, !want)
		}
	}
}

func TestGetOfTheZeroBank(t *testing.T) {
	for i := range 256 {
		name, want := byte(i), api.ErrEmpty
		if !isName(name) {
			want = api.ErrName
		}
		if r, e := bank.Get(api.Bank{}, name); e != want || r.Set || r.Lines || len(r.Text) > 0 {
			t.Errorf("Get of %q in the zero bank = %+v, %d; want %d", name, r, e, want)
		}
	}
	for _, name := range []byte("0_") {
		if _, e := bank.Get(api.Bank{}, name); e != api.ErrName {
			t.Errorf("Get of %q = %d", name, e)
		}
	}
}

// Each name leads to the field that has it, and no other.
func TestGetByFields(t *testing.T) {
	b := asBank(full())
	for i := range 26 {
		for _, first := range []byte("aA") {
			if r, e := bank.Get(b, first+byte(i)); e != api.OK || asContent(r) != asContent(b.Names[i]) {
				t.Errorf("Get of %q = %q, %d", first+byte(i), r.Text, e)
			}
		}
	}
	for i := range 9 {
		if r, e := bank.Get(b, '1'+byte(i)); e != api.OK || asContent(r) != asContent(b.Numbers[i]) {
			t.Errorf("Get of %d = %q, %d", i+1, r.Text, e)
		}
	}
	for _, name := range []byte{0, '"'} {
		if r, e := bank.Get(b, name); e != api.OK || asContent(r) != asContent(b.Unnamed) {
			t.Errorf("Get of %q = %q, %d", name, r.Text, e)
		}
	}
	if r, e := bank.Get(b, '-'); e != api.OK || asContent(r) != asContent(b.Small) {
		t.Errorf("Get of - = %q, %d", r.Text, e)
	}
}

// A doing is a Put, and what the named registers must hold behind it.
type doing struct {
	name byte
	how  int
	put  content
	want map[byte]content
}

// hold does one Put behind the other, from the zero bank on; what isn't told must stay as it was.
func hold(t *testing.T, list []doing) {
	t.Helper()
	var b api.Bank
	var stays shelf
	for i, d := range list {
		next, e := bank.Put(b, d.name, d.how, asReg(d.put))
		if e != api.OK {
			t.Fatalf("Put number %d: %d", i, e)
		}
		for name, c := range d.want {
			stays[name] = c
		}
		if got := asShelf(next); got != stays {
			t.Fatalf("Put number %d: %s; want %s", i, told(got), told(stays))
		}
		b = next
	}
}

func TestPutExamples(t *testing.T) {
	hold(t, []doing{
		{0, deleted, whole("x\n"), map[byte]content{'"': whole("x\n"), '1': whole("x\n")}},
		{0, small, plain("y"), map[byte]content{'"': plain("y"), '-': plain("y")}},
		{0, yanked, plain("z"), map[byte]content{'"': plain("z")}},
		{'a', yanked, plain("p"), map[byte]content{'"': plain("p"), 'a': plain("p")}},
		{'A', yanked, plain("q"), map[byte]content{'"': plain("pq"), 'a': plain("pq")}},
		{'A', deleted, whole("l\n"), map[byte]content{'"': whole("pq\nl\n"), 'a': whole("pq\nl\n")}},
	})
	for _, c := range []struct {
		name byte
		how  int
		r    content
		want api.Errno
	}{{'a', yanked, whole("x"), api.ErrArg}, {'a', 0, plain("x"), api.ErrArg}, {'_', 0, plain("x"), api.ErrName}} {
		if b, e := bank.Put(asBank(full()), c.name, c.how, asReg(c.r)); e != c.want || !isNothing(b) {
			t.Errorf("Put of %q to %q, how %d: %d, %s", c.r.text, c.name, c.how, e, told(asShelf(b)))
		}
	}
}

// With a name, how doesn't matter: nothing moves on, and the small one stays.
func TestPutByName(t *testing.T) {
	for how := yanked; how <= small; how++ {
		for i := range "-" + numberNames + letterNames {
			name := placeNames[i+1]
			want := full()
			want[name], want['"'] = whole("new\n"), whole("new\n")
			if got, e := putAsTold(t, full(), name, how, whole("new\n")); got != want || e != api.OK {
				t.Errorf("Put to %q, how %d: %s, %d", name, how, told(got), e)
			}
		}
		for i := range greatNames {
			want := full()
			want[letterNames[i]] = plain(letterNames[i:i+1] + "new")
			want['"'] = want[letterNames[i]]
			if got, e := putAsTold(t, full(), greatNames[i], how, plain("new")); got != want || e != api.OK {
				t.Errorf("Put to %q, how %d: %s, %d", greatNames[i], how, told(got), e)
			}
		}
	}
}

func TestPutWithoutAName(t *testing.T) {
	for _, name := range []byte{0, '"'} {
		want := full()
		want['"'] = plain("new")
		if got, _ := putAsTold(t, full(), name, yanked, plain("new")); got != want {
			t.Errorf("Yanked: %s", told(got))
		}
		want['-'] = plain("new")
		if got, _ := putAsTold(t, full(), name, small, plain("new")); got != want {
			t.Errorf("Small: %s", told(got))
		}
		want['-'], want['1'] = plain("-"), plain("new")
		for i := range "12345678" {
			want[numberNames[i+1]] = plain(numberNames[i : i+1])
		}
		if got, _ := putAsTold(t, full(), name, deleted, plain("new")); got != want {
			t.Errorf("Deleted: %s", told(got))
		}
	}
}

// A register that isn't set moves on too.
func TestUnsetMovesOn(t *testing.T) {
	var b api.Bank
	b.Numbers[0] = api.Reg{Set: true, Text: []byte("one")}
	b.Numbers[2] = api.Reg{Set: true, Text: []byte("three")}
	b, _ = bank.Put(b, 0, deleted, api.Reg{Text: []byte("new")})
	want := shelf{'"': plain("new"), '1': plain("new"), '2': plain("one"), '4': plain("three")}
	if got := asShelf(b); got != want {
		t.Errorf("%s; want %s", told(got), told(want))
	}
}

func TestPutBehind(t *testing.T) {
	for _, c := range []struct{ o, r, want content }{
		{plain("p"), plain("q"), plain("pq")}, {plain(""), plain(""), plain("")}, {plain("p"), plain(""), plain("p")}, {plain(""), plain("q"), plain("q")}, {plain("p\n"), plain("q"), plain("p\nq")}, {plain("p"), plain("\n"), plain("p\n")},
		{plain("p"), whole("l\n"), whole("p\nl\n")}, {plain("p\n"), whole("l\n"), whole("p\nl\n")}, {plain("p\n\n"), whole("l\n"), whole("p\n\nl\n")}, {plain("p"), whole("\n"), whole("p\n\n")},
		// Nothing has no line end at its end.
		{plain(""), whole("l\n"), whole("\nl\n")}, {plain(""), whole("\n"), whole("\n\n")},
		{whole("l\n"), plain("q"), whole("l\nq\n")}, {whole("l\n"), plain("q\n"), whole("l\nq\n")}, {whole("l\n"), plain(""), whole("l\n")}, {whole("\n"), plain("\n"), whole("\n\n")}, {whole("\n"), plain(""), whole("\n")}, {whole("l\n"), plain("q\nr"), whole("l\nq\nr\n")},
		{whole("l\n"), whole("m\n"), whole("l\nm\n")}, {whole("\n"), whole("\n"), whole("\n\n")}, {whole("a\nb\n"), whole("\n"), whole("a\nb\n\n")},
		// A bank that no Put made: lines without a line end.
		{whole("l"), plain("q"), whole("l\nq\n")}, {whole(""), plain(""), whole("\n")}, {whole(""), whole("m\n"), whole("\nm\n")}, {whole("l"), whole("m\n"), whole("l\nm\n")}, {whole("l"), plain(""), whole("l\n")},
		// Only the byte 10 ends a line.
		{plain("p\r"), whole("l\n"), whole("p\r\nl\n")}, {whole("l\n"), plain("q\r"), whole("l\nq\r\n")}, {plain("\xff\x00"), plain("\x80"), plain("\xff\x00\x80")},
	} {
		for how := yanked; how <= small; how++ {
			for i := range greatNames {
				s := full()
				s[letterNames[i]] = c.o
				want := s
				want[letterNames[i]], want['"'] = c.want, c.want
				if got, e := putAsTold(t, s, greatNames[i], how, c.r); got != want || e != api.OK {
					t.Fatalf("%q behind %q: %s, %d; want %q", c.r.text, c.o.text, told(got), e, c.want.text)
				}
			}
		}
	}
}

// Where the small letter's register isn't set, what it has otherwise counts for nothing.
func TestPutBehindNothing(t *testing.T) {
	for _, o := range []content{{}, {lines: true}, {text: "old"}, {lines: true, text: "old\n"}, {text: strings.Repeat("x", api.MaxText+1)}} {
		for _, r := range []content{{text: "new"}, {lines: true, text: "new\n"}, {}, {text: strings.Repeat("y", api.MaxText)}} {
			want := r
			want.set = true
			got, e := putAsTold(t, shelf{'q': o}, 'Q', deleted, r)
			if e != api.OK || got != (shelf{'q': want, '"': want}) {
				t.Errorf("%.20q behind nothing: %s, %d", r.text, told(got), e)
			}
		}
	}
}

// Set is no part of what is put: with it and without it the same comes of it.
func TestSetOfWhatIsPut(t *testing.T) {
	for i := range 256 {
		for _, s := range []shelf{{}, full()} {
			for how := yanked; how <= small; how++ {
				one, e1 := putAsTold(t, s, byte(i), how, content{set: true, text: "x\n"})
				two, e2 := putAsTold(t, s, byte(i), how, content{set: false, text: "x\n"})
				if one != two || e1 != e2 {
					t.Errorf("Put to %q with Set: %s; without: %s", byte(i), told(one), told(two))
				}
			}
		}
	}
}

func TestLongest(t *testing.T) {
	most := strings.Repeat("x", api.MaxText)
	mostLines := most[1:] + "\n"
	for i := range 256 {
		name := byte(i)
		if !isName(name) {
			continue
		}
		for how := yanked; how <= small; how++ {
			if got, e := putAsTold(t, shelf{}, name, how, plain(most)); e != api.OK || got[placeOf(name)] != plain(most) {
				t.Errorf("the longest text to %q: %d", name, e)
			}
			if got, e := putAsTold(t, shelf{}, name, how, whole(mostLines)); e != api.OK || got[placeOf(name)] != whole(mostLines) {
				t.Errorf("the longest lines to %q: %d", name, e)
			}
			for _, c := range []content{plain(most + "x"), whole(mostLines + "\n"), whole(most + "x"), plain(most + most)} {
				if _, e := putAsTold(t, full(), name, how, c); e != api.ErrLong {
					t.Errorf("%d bytes to %q: %d", len(c.text), name, e)
				}
			}
		}
	}
}

// The line ends that are put in count too.
func TestLongestBehind(t *testing.T) {
	x := func(n int) string { return strings.Repeat("x", n) }
	const most = api.MaxText
	for _, c := range []struct {
		o, r content
		want api.Errno
	}{
		{plain(x(most)), plain(""), api.OK}, {plain(x(most)), plain("y"), api.ErrLong}, {plain(""), plain(x(most)), api.OK}, {plain("y"), plain(x(most)), api.ErrLong}, {plain("y"), plain(x(most - 1)), api.OK}, {plain(x(most / 2)), plain(x(most / 2)), api.OK}, {plain(x(most / 2)), plain(x(most/2 + 1)), api.ErrLong},
		{plain(x(most - 2)), whole("\n"), api.OK}, {plain(x(most - 1)), whole("\n"), api.ErrLong}, {plain(x(most-2) + "\n"), whole("\n"), api.OK}, {plain(x(most)), whole("\n"), api.ErrLong}, {plain(""), whole(x(most-2) + "\n"), api.OK}, {plain(""), whole(x(most-1) + "\n"), api.ErrLong},
		{whole("\n"), plain(x(most - 2)), api.OK}, {whole("\n"), plain(x(most - 1)), api.ErrLong}, {whole("\n"), plain(x(most-2) + "\n"), api.OK}, {whole(x(most-1) + "\n"), plain(""), api.OK}, {whole(x(most-2) + "\n"), plain("\n"), api.OK}, {whole(x(most-1) + "\n"), plain("\n"), api.ErrLong}, {whole(x(most-2) + "\n"), plain("y"), api.ErrLong},
		{whole(x(most-2) + "\n"), whole("\n"), api.OK}, {whole(x(most-1) + "\n"), whole("\n"), api.ErrLong},
		// A bank that no Put made: a register that is longer than a text may be.
		{plain(x(most + 1)), plain(""), api.ErrLong}, {whole(x(most) + "\n"), plain(""), api.ErrLong}, {whole(x(most)), plain(""), api.ErrLong}, {whole(x(most - 1)), plain(""), api.OK}, {plain(x(3 * most)), plain(x(most)), api.ErrLong},
	} {
		s := full()
		s['m'] = c.o
		if got, e := putAsTold(t, s, 'M', yanked, c.r); e != c.want || e == api.OK && got['"'] != got['m'] {
			t.Errorf("%d bytes (lines %v) behind %d (lines %v): %d; want %d", len(c.r.text), c.r.lines, len(c.o.text), c.o.lines, e, c.want)
		}
		// Any other letter has room.
		if _, e := putAsTold(t, s, 'N', yanked, plain("y")); e != api.OK {
			t.Errorf("N: %d", e)
		}
	}
}

// Of several faults the one that comes first in the chapter's order is told, and no bank.
func TestOrderOfErrors(t *testing.T) {
	long := strings.Repeat("x", api.MaxText+1)
	s := full()
	s['b'] = plain(long[1:])
	for _, c := range []struct {
		name byte
		how  int
		r    content
		want api.Errno
	}{
		{'0', 0, whole(long), api.ErrName}, {'_', 4, whole("x"), api.ErrName}, {'`', -1, plain(long), api.ErrName}, {'[', yanked, whole(long), api.ErrName}, {0xc1, yanked, plain("x"), api.ErrName}, {'@', yanked, whole("x"), api.ErrName},
		{'B', 0, whole(long), api.ErrArg}, {0, 4, plain(long), api.ErrArg}, {'"', math.MinInt, whole("x"), api.ErrArg}, {'B', 0, plain("x"), api.ErrArg}, {'-', math.MaxInt, plain("x"), api.ErrArg},
		{'B', yanked, whole(long), api.ErrLong}, {'b', small, whole(long), api.ErrLong}, {0, deleted, whole(long), api.ErrLong}, {'9', deleted, plain(long), api.ErrLong},
		{'B', yanked, whole("x"), api.ErrArg}, {'B', yanked, whole(""), api.ErrArg}, {'B', yanked, whole(long[1:]), api.ErrArg}, {0, deleted, whole(""), api.ErrArg}, {'-', small, whole("x\ny"), api.ErrArg}, {'5', yanked, whole("\r"), api.ErrArg},
		{'B', yanked, whole("x\n"), api.ErrLong}, {'B', deleted, plain("x"), api.ErrLong}, {'B', small, plain("\n"), api.ErrLong},
	} {
		if got, e := putAsTold(t, s, c.name, c.how, c.r); e != c.want || got != (shelf{}) {
			t.Errorf("Put of %.20q to %q, how %d: %d, %s; want %d", c.r.text, c.name, c.how, e, told(got), c.want)
		}
	}
}

// contents are texts of every sort that Put tells apart, right and wrong ones.
func contents() []content {
	var list []content
	for _, text := range []string{"", "x", "\n", "x\n", "x\ny", "\nx", "x\n\n", "\r", "\x00\xff", "long\nlines\nof text\n"} {
		for flags := range 4 {
			list = append(list, content{flags&1 > 0, flags&2 > 0, text})
		}
	}
	return list
}

// shelves are banks of every sort: without anything, with all set, with each content all over, and with these mixed.
func shelves() []shelf {
	list := []shelf{{}, full()}
	every := contents()
	var mixed shelf
	for k, c := range every {
		var s shelf
		for i := range placeNames {
			s[placeNames[i]] = c
			mixed[placeNames[i]] = every[(i*7+k)%len(every)]
		}
		list = append(list, s, mixed)
	}
	return list
}

func hows() []int {
	return []int{yanked, deleted, small, 0, 4, -1, -2, 5, 1<<8 + 1, 1<<32 + 2, math.MinInt, math.MaxInt}
}

func TestEveryGet(t *testing.T) {
	for _, s := range shelves() {
		getAsTold(t, s)
	}
	long := full()
	long['m'] = whole(strings.Repeat("x", 3*api.MaxText))
	getAsTold(t, long)
}

func TestEveryPut(t *testing.T) {
	var names []byte
	for i := range 256 {
		names = append(names, byte(i))
	}
	for n, s := range shelves() {
		list, ways := []byte("\x00\"-19azAZ0_"), []int{yanked, deleted, small}
		if n < 4 {
			list, ways = names, hows()
		}
		for _, name := range list {
			for _, how := range ways {
				for _, c := range contents() {
					putAsTold(t, s, name, how, c)
				}
			}
		}
	}
}

// A picker is a plain row of numbers, the same in every run.
type picker uint64

func (p *picker) below(n int) int {
	*p = *p*6364136223846793005 + 1442695040888963407
	return int(uint64(*p)>>33) % n
}

func (p *picker) content() content {
	text := make([]byte, p.below(5))
	for i := range text {
		text[i] = "ab \n\x00\xff"[p.below(6)]
	}
	return content{p.below(2) > 0, p.below(3) == 0, string(text)}
}

func (p *picker) name() byte {
	const common = "\x00\"-19aAzZ"
	if p.below(3) > 0 {
		return common[p.below(len(common))]
	}
	return byte(p.below(256))
}

// heldBehind: P15.2, of one Put that was taken: got is the shelf behind it.
func heldBehind(t *testing.T, before, got shelf, name byte, r content) {
	t.Helper()
	b := asBank(got)
	mine, e1 := bank.Get(b, name)
	none, e2 := bank.Get(b, 0)
	want := content{true, r.lines, r.text}
	if o := before[placeOf(name)]; name >= 'A' && name <= 'Z' && o.set {
		want = wordBehind(o, r)
	}
	if e1 != api.OK || e2 != api.OK || asContent(mine) != want || asContent(none) != want {
		t.Fatalf("behind a Put to %q its register is %q and the unnamed one %q; want %q", name, mine.Text, none.Text, want.text)
	}
	named := name != 0 && name != '"'
	for i := range placeNames {
		other := placeNames[i]
		free := other == '"' || other == placeOf(name) || !named && !strings.Contains(letterNames, placeNames[i:i+1])
		if !free && got[other] != before[other] {
			t.Fatalf("a Put to %q changed %q from %q to %q", name, other, before[other].text, got[other].text)
		}
	}
}

func TestPickedPuts(t *testing.T) {
	p := picker(15)
	for range 200 {
		var s shelf
		for range 60 {
			name, how, c := p.name(), 1+p.below(3), p.content()
			got, e := putAsTold(t, s, name, how, c)
			if e != api.OK {
				continue
			}
			heldBehind(t, s, got, name, c)
			s = got
		}
		getAsTold(t, s)
	}
}

// P15.3: what else is put in between, yanked, small or with a letter's name, moves nothing on.
func TestDeletedMoveOn(t *testing.T) {
	p := picker(3)
	for range 50 {
		b := asBank(full())
		last := []content{plain("1"), plain("2"), plain("3"), plain("4"), plain("5"), plain("6"), plain("7"), plain("8"), plain("9")}
		for range 40 {
			name, how, c := "\x00\"aZ-"[p.below(5)], 1+p.below(3), p.content()
			c.lines = false
			next, e := bank.Put(b, name, how, asReg(c))
			if e != api.OK {
				t.Fatalf("Put to %q: %d", name, e)
			}
			if (name == 0 || name == '"') && how == deleted {
				last = append([]content{plain(c.text)}, last...)
			}
			for i := range 9 {
				r, e := bank.Get(next, '1'+byte(i))
				if e != api.OK || asContent(r) != last[i] {
					t.Fatalf("%d holds %q, %d; want %q", i+1, r.Text, e, last[i].text)
				}
			}
			b = next
		}
	}
}

func TestNilIsTheEmptyText(t *testing.T) {
	for i := range 256 {
		for how := range 5 {
			b1, e1 := bank.Put(asBank(full()), byte(i), how, api.Reg{Text: nil})
			b2, e2 := bank.Put(asBank(full()), byte(i), how, api.Reg{Text: []byte{}})
			if e1 != e2 || asShelf(b1) != asShelf(b2) {
				t.Errorf("Put to %q, how %d: nil %d, empty %d", byte(i), how, e1, e2)
			}
		}
	}
	for _, text := range [][]byte{nil, {}} {
		b := api.Bank{Unnamed: api.Reg{Set: true, Text: text}}
		if r, e := bank.Get(b, 0); e != api.OK || !r.Set || len(r.Text) > 0 {
			t.Errorf("Get of a set register without bytes: %+v, %d", r, e)
		}
	}
}

// texts are a bank's texts, so that they can be gone over.
func texts(b api.Bank) [][]byte {
	list := [][]byte{b.Unnamed.Text, b.Small.Text}
	for _, r := range b.Numbers {
		list = append(list, r.Text)
	}
	for _, r := range b.Names {
		list = append(list, r.Text)
	}
	return list
}

// fill writes over a text, up to the end of its room.
func fill(text []byte, b byte) {
	all := text[:cap(text)]
	for i := range all {
		all[i] = b
	}
}

// A lent is a bank and a content that all lie in one memory, each text with spare room behind it.
type lent struct {
	memory []byte
	b      api.Bank
	r      api.Reg
}

func lend() lent {
	l := lent{memory: []byte("one text for all\n#spare#")}
	text := l.memory[:17]
	reg := api.Reg{Set: true, Lines: true, Text: text}
	l.b = api.Bank{Unnamed: reg, Small: reg}
	for i := range l.b.Numbers {
		l.b.Numbers[i] = reg
	}
	for i := range l.b.Names {
		l.b.Names[i] = api.Reg{Set: i%2 == 0, Text: l.memory[i%3 : 17-i%5]}
	}
	l.r = api.Reg{Lines: true, Text: text}
	return l
}

// What is handed in isn't changed, nor is its spare room.
func TestHandedInIsLeftAlone(t *testing.T) {
	for i := range 256 {
		for how := range 5 {
			l := lend()
			memory, before := bytes.Clone(l.memory), asShelf(l.b)
			bank.Get(l.b, byte(i))
			bank.Put(l.b, byte(i), how, l.r)
			bank.Put(l.b, byte(i), how, api.Reg{Text: l.memory[:3]})
			if !bytes.Equal(l.memory, memory) || asShelf(l.b) != before || l.r.Set {
				t.Fatalf("Put to %q, how %d, wrote %q", byte(i), how, l.memory)
			}
		}
	}
}

// P15.4: each text of an answer is written over, up to the end of its room; nothing else may show it, whatever the bank that came in shared.
func TestPutSharesNothing(t *testing.T) {
	for i := range placeNames + greatNames {
		name := (placeNames + greatNames)[i]
		for how := yanked; how <= small; how++ {
			l := lend()
			memory := bytes.Clone(l.memory)
			first, e := bank.Put(l.b, name, how, l.r)
			if e != api.OK {
				t.Fatalf("Put to %q: %d", name, e)
			}
			second, _ := bank.Put(l.b, name, how, l.r)
			want := texts(asBank(asShelf(first)))
			for k, text := range texts(first) {
				fill(text, '!')
				for n, other := range texts(first) {
					if n > k && !bytes.Equal(other, want[n]) {
						t.Fatalf("Put to %q, how %d: the texts %d and %d share memory", name, how, k, n)
					}
				}
			}
			// From the last to the first, so that room behind a text is seen too.
			for k := len(want) - 1; k >= 0; k-- {
				fill(texts(first)[k], '?')
				for n := range k {
					if bytes.Contains(texts(first)[n], []byte("?")) {
						t.Fatalf("Put to %q, how %d: the texts %d and %d share memory", name, how, k, n)
					}
				}
			}
			if !bytes.Equal(l.memory, memory) {
				t.Fatalf("Put to %q, how %d: an answer shares with what was handed in", name, how)
			}
			fill(l.memory, '#')
			for n, text := range texts(second) {
				if !bytes.Equal(text, want[n]) {
					t.Fatalf("Put to %q, how %d: an answer shares with what was handed in, or with another", name, how)
				}
			}
		}
	}
}

func TestGetSharesNothing(t *testing.T) {
	for i := range placeNames + greatNames {
		name := (placeNames + greatNames)[i]
		l := lend()
		memory := bytes.Clone(l.memory)
		one, e := bank.Get(l.b, name)
		two, _ := bank.Get(l.b, name)
		if e == api.ErrEmpty {
			continue
		}
		want := string(two.Text)
		fill(one.Text, '!')
		if !bytes.Equal(l.memory, memory) || string(two.Text) != want {
			t.Errorf("Get of %q shares with the bank or with another answer", name)
		}
		fill(l.memory, '#')
		if string(two.Text) != want {
			t.Errorf("Get of %q shares with the bank", name)
		}
	}
}

// A register's own text may be put behind itself, and into others.
func TestPutOfTheBanksOwn(t *testing.T) {
	b := asBank(full())
	for range 3 {
		next, e := bank.Put(b, 'A', yanked, b.Names[0])
		if e != api.OK {
			t.Fatal(e)
		}
		b = next
	}
	if got := string(b.Names[0].Text); got != "aaaaaaaa" {
		t.Errorf("a put behind itself three times: %q", got)
	}
}

// Nothing is kept: the same call answers the same, whatever was called in between.
func TestNothingIsKept(t *testing.T) {
	want, _ := bank.Put(api.Bank{}, 'A', yanked, api.Reg{Text: []byte("x")})
	bank.Put(asBank(full()), 'A', deleted, api.Reg{Text: []byte("y")})
	got, e := bank.Put(api.Bank{}, 'A', yanked, api.Reg{Text: []byte("x")})
	if e != api.OK || asShelf(got) != asShelf(want) {
		t.Errorf("%s, %d; want %s", told(asShelf(got)), e, told(asShelf(want)))
	}
}
