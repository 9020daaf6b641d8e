package typing_test

import (
	"bytes"
	"strings"
	"testing"

	"quoin/api"
	"quoin/change"
	"quoin/typing"
)

// asBytes is a typing over a text, as the program holds them.
type asBytes struct {
	base []byte
	y    api.Typing
}

func from(base string, n note) asBytes { return asBytes{[]byte(base), n.typing()} }

// all are those over a text that fit it: of both kinds, at each place.
func all(base, typed string, count int) []asBytes {
	var list []asBytes
	for start := range len(base) + 1 {
		list = append(list, from(base, in(start, typed).times(count)), from(base, over(start, wordCovers(base, start, typed), typed).times(count)))
	}
	return list
}

// promised asks for P20.2 to P20.5 of one typing.
func (a asBytes) promised(t *testing.T) {
	t.Helper()
	for key := range 256 {
		a.back(t, byte(key))
	}
	a.finished(t)
	a.keptLength(t)
}

// back: P20.2, and P20.3 of what goes on.
func (a asBytes) back(t *testing.T, key byte) {
	t.Helper()
	z, on, e := typing.Press(a.base, a.y, key)
	if !on {
		return
	}
	shown, _ := typing.Show(a.base, z)
	if want := len(shown) > api.MaxText; (typing.Check(a.base, z) != api.OK) != want {
		t.Fatalf("%d behind %v over %.99q leads to %v, which is refused or too long", key, noted(a.y), a.base, noted(z))
	}
	if _, _, f := typing.Press(a.base, z, 27); e != api.OK || f != api.OK {
		t.Fatalf("%d behind %v over %.99q leads to %v, which doesn't fit: %d, %d", key, noted(a.y), a.base, noted(z), e, f)
	}
	if key != 10 && key != 13 && !isTextByte(key) {
		return
	}
	if was, on, e := typing.Press(a.base, z, 8); !on || e != api.OK || noted(was) != noted(a.y) {
		t.Fatalf("%d behind %v over %.99q, and back: %v, %d", key, noted(a.y), a.base, noted(was), e)
	}
}

// finished: P20.4; with more copies the edits fit all the same.
func (a asBytes) finished(t *testing.T) {
	t.Helper()
	shown, at := typing.Show(a.base, a.y)
	edits, place := typing.Finish(a.base, a.y)
	text, e := change.Apply(a.base, edits)
	if e != api.OK || len(edits) > 1 || place > len(text) || place < a.y.Start-1 {
		t.Fatalf("Finish(%.99q, %v): %d edits, %d, place %d", a.base, noted(a.y), len(edits), e, place)
	}
	if len(edits) > 0 && len(edits[0].New) > len(a.y.Typed) {
		return
	}
	if a.y.Count != 1 && len(a.y.Typed) > 0 && len(text)+(a.y.Count-1)*len(a.y.Typed) <= api.MaxText {
		t.Fatalf("Finish(%.99q, %v) has made no copies", a.base, noted(a.y))
	}
	if string(text) != string(shown) || place != at && place != at-1 {
		t.Fatalf("Finish(%.99q, %v): %.99q, %d; shown is %.99q, %d", a.base, noted(a.y), text, place, shown, at)
	}
}

// keptLength: P20.5.
func (a asBytes) keptLength(t *testing.T) {
	t.Helper()
	if a.y.Kind != 'R' || bytes.IndexByte(a.y.Typed, 10) >= 0 {
		return
	}
	line, behind, ends := strings.Cut(string(a.base[a.y.Start:]), "\n")
	if ends {
		behind = "\n" + behind
	}
	shown, _ := typing.Show(a.base, a.y)
	want := string(a.base[:a.y.Start]) + string(a.y.Typed) + line[min(len(line), len(a.y.Typed)):] + behind
	if string(shown) != want || len(shown) != len(a.base)+max(0, len(a.y.Typed)-len(line)) {
		t.Fatalf("Show(%.99q, %v) = %.99q", a.base, noted(a.y), shown)
	}
}

func TestPromisesOfShortTexts(t *testing.T) {
	for _, base := range short("a\n", 4) {
		for _, typed := range append(short("x\n", 3), " x", "x ", ".x", "x. \t") {
			for count := range 2 {
				for _, a := range all(base, typed, 1+count*2) {
					a.promised(t)
				}
			}
		}
	}
}

func TestPromisesOfPickedTexts(t *testing.T) {
	p := picker(2004)
	for range 300 {
		base, typed := p.text(p.below(20)), p.text(p.below(12))
		for _, a := range all(base, typed, 1+p.below(4)) {
			a.promised(t)
		}
	}
}

// With great texts the copies are too many, or what is shown is too long already.
func TestPromisesOfGreatTexts(t *testing.T) {
	for _, size := range []int{api.MaxText - 7, api.MaxText - 1, api.MaxText, api.MaxText + 1} {
		for _, line := range []string{"y", "yyyyyyyyy\n"} {
			base := strings.Repeat(line, size)[:size]
			for _, typed := range []string{"", "x", "xyz", "x\n", "\n"} {
				for _, count := range []int{1, 2, 3, 9999} {
					for _, start := range []int{0, 8, size} {
						for _, n := range []note{in(start, typed), over(start, wordCovers(base, start, typed), typed)} {
							a := from(base, n.times(count))
							a.back(t, 'x')
							a.back(t, 13)
							a.finished(t)
							a.keptLength(t)
						}
					}
				}
			}
		}
	}
}

// withRoom is a list with spare room behind it that is filled, so that a write into it is seen.
func withRoom(text string) (all, part []byte) {
	all = append([]byte(text), "#spare#"...)
	return all, all[:len(text)]
}

// A call is one of the package's functions, and all lists that it answers.
type call struct {
	name string
	call func(a asBytes) (lists [][]byte, edits []api.Edit)
}

func calls() []call {
	list := []call{
		{"Check", func(a asBytes) ([][]byte, []api.Edit) {
			typing.Check(a.base, a.y)
			return nil, nil
		}},
		{"Show", func(a asBytes) ([][]byte, []api.Edit) {
			shown, _ := typing.Show(a.base, a.y)
			return [][]byte{shown}, nil
		}},
		{"Finish", func(a asBytes) ([][]byte, []api.Edit) {
			edits, _ := typing.Finish(a.base, a.y)
			var lists [][]byte
			for _, e := range edits {
				lists = append(lists, e.Old, e.New)
			}
			return lists, edits
		}},
	}
	for _, key := range []byte("x\n\r\x08\x7f\x15\x17\x1b\x00") {
		list = append(list, call{"Press", func(a asBytes) ([][]byte, []api.Edit) {
			z, _, _ := typing.Press(a.base, a.y, key)
			return [][]byte{z.Typed}, nil
		}})
	}
	return list
}

func fill(list []byte, b byte) {
	list = list[:cap(list)]
	for i := range list {
		list[i] = b
	}
}

func copies(lists [][]byte) []string {
	var list []string
	for _, l := range lists {
		list = append(list, string(l))
	}
	return list
}

func same(lists [][]byte, want []string) bool {
	for i := range want {
		if string(lists[i]) != want[i] {
			return false
		}
	}
	return len(lists) == len(want)
}

// some are typings of each kind, one that doesn't fit too, for a text of some lines.
func some() []note {
	return []note{in(1, ""), in(1, "a b\nc  "), in(4, "x").times(3), over(0, 2, "x\nyz"), over(1, 0, "").times(2), over(3, 2, "q. "), over(4, 1, "\nq").times(9999), over(0, 0, "wrong")}
}

// What is handed in is left alone, and what is answered is memory of its own, up to the end of its room.
func TestMemory(t *testing.T) {
	for _, n := range some() {
		room, part := withRoom(base)
		typedRoom, typedPart := withRoom(n.typed)
		a := asBytes{part, n.typing()}
		a.y.Typed = typedPart
		before, typedBefore := string(room), string(typedRoom)
		untouched := func() bool { return string(room) == before && string(typedRoom) == typedBefore }
		for _, c := range calls() {
			one, edits := c.call(a)
			two, others := c.call(a)
			want := copies(two)
			if !untouched() {
				t.Fatalf("%s of %v: the text is now %q, what is typed %q", c.name, n, room, typedRoom)
			}
			for i := range one {
				kept := copies(one)
				fill(one[i], '1')
				kept[i] = string(one[i])
				if !same(one, kept) {
					t.Fatalf("%s of %v: two lists are one", c.name, n)
				}
			}
			if len(edits) > 0 {
				edits[0].At, edits[0].Old, edits[0].New = -7, nil, nil
				if others[0].At != n.start {
					t.Fatalf("%s of %v: two lists of edits are one", c.name, n)
				}
			}
			if !same(two, want) || !untouched() {
				t.Fatalf("%s of %v shares with another answer or an argument", c.name, n)
			}
			fill(room, '3')
			fill(typedRoom, '3')
			if !same(two, want) {
				t.Fatalf("%s of %v shares with an argument", c.name, n)
			}
			copy(room, before)
			copy(typedRoom, typedBefore)
			if again, _ := c.call(a); !same(again, want) {
				t.Fatalf("%s of %v has kept something", c.name, n)
			}
		}
	}
}

// nil and empty are one and the same in what is handed in.
func TestNilIsEmpty(t *testing.T) {
	for _, kind := range []byte("iR") {
		for _, base := range [][]byte{nil, {}} {
			for _, typed := range [][]byte{nil, {}} {
				y := api.Typing{Kind: kind, Count: 3, Typed: typed}
				shown, at := typing.Show(base, y)
				edits, place := typing.Finish(base, y)
				if len(shown) > 0 || at != 0 || len(edits) > 0 || place != 0 || typing.Check(base, y) != api.OK {
					t.Errorf("%v over %v: %q, %d, %v, %d", y, base, shown, at, edits, place)
				}
				z, on, e := typing.Press(base, y, 'a')
				if want := (note{kind, 0, 0, 3, "a"}); !on || e != api.OK || noted(z) != want {
					t.Errorf("%v over %v: %v, %v, %d", y, base, z, on, e)
				}
				if z, on, e := typing.Press(base, y, 27); on || e != api.OK || noted(z) != noted(y) {
					t.Errorf("%v over %v, Escape: %v, %v, %d", y, base, z, on, e)
				}
				if z, on, e := typing.Press(base, y, 8); on || e != api.ErrType || z.Typed != nil || noted(z) != (note{}) {
					t.Errorf("%v over %v, 8: %v, %v, %d", y, base, z, on, e)
				}
			}
		}
	}
	if text, at := typing.Show(nil, api.Typing{}); len(text) > 0 || at != 0 {
		t.Errorf("Show of the zero typing: %q, %d", text, at)
	}
}

// Beside an error every other result is zero, the list nil too.
func TestNothingBesideAnError(t *testing.T) {
	for _, n := range wrong() {
		z, on, e := typing.Press([]byte(base), n.typing(), 27)
		if e != api.ErrArg || on || z.Typed != nil || noted(z) != (note{}) {
			t.Errorf("Press(%v): %v, %v, %d", n, z, on, e)
		}
		if edits, place := typing.Finish([]byte(base), n.typing()); edits != nil || place != 0 {
			t.Errorf("Finish(%v): %v, %d", n, edits, place)
		}
	}
	for _, n := range []note{in(1, "a\n"), over(0, 2, "xyz")} {
		for _, key := range []byte{0, 7, 11, 12, 14, 20, 22, 24, 26, 28, 31} {
			if z, on, e := typing.Press([]byte(base), n.typing(), key); e != api.ErrType || on || z.Typed != nil || noted(z) != (note{}) {
				t.Errorf("Press(%v, %d): %v, %v, %d", n, key, z, on, e)
			}
		}
	}
}
