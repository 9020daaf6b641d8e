package oper_test

import (
	"bytes"
	"slices"
	"strings"
	"testing"

	"quoin/api"
	"quoin/change"
	"quoin/oper"
)

// behind is the text behind an effect.
func behind(t *testing.T, text string, x api.Effect) string {
	t.Helper()
	list, e := change.Apply([]byte(text), x.Edits)
	if e != api.OK {
		t.Fatalf("%.99q: %v doesn't fit", text, tell(x, e))
	}
	return string(list)
}

// taken is what d leaves of the text, and what it takes.
func taken(t *testing.T, text string, at int, r api.Range) (left string, x api.Effect) {
	t.Helper()
	x, e := oper.Do([]byte(text), at, "d", r, 1)
	if e != api.OK {
		t.Fatalf("d of %.99q, %+v: %d", text, r, e)
	}
	return behind(t, text, x), x
}

// putBack holds that a register put into what d left gives the text again.
func putBack(t *testing.T, text, left string, at int, r api.Reg, ahead bool) {
	t.Helper()
	x, e := oper.Put([]byte(left), at, 1, r, ahead)
	if got := behind(t, left, x); e != api.OK || got != text {
		t.Fatalf("%.99q put at %d of %.99q (ahead %v): %.99q, %d; want %.99q", r.Text, at, left, ahead, got, e, text)
	}
}

// outAndIn: P19.3, of the bytes from one place to another.
func outAndIn(t *testing.T, text string, from, to int) {
	left, x := taken(t, text, from, plain(from, to))
	if string(x.Reg.Text) != text[from:to] || x.Reg.Lines || len(x.Edits) != 1 || string(x.Edits[0].Old) != text[from:to] {
		t.Fatalf("d of %.99q, %d to %d: %v", text, from, to, tell(x, 0))
	}
	putBack(t, text, left, from, x.Reg, true)
}

// linesOutAndIn: P19.3, of some lines.
func linesOutAndIn(t *testing.T, text string, a, b int) {
	start, _ := bounds(text, a)
	_, end := bounds(text, b)
	list := strings.SplitAfter(text[start:end], "\n")
	last := strings.Count(text, "\n")
	r := wordWhole(text, a, b)
	left, x := taken(t, text, start, r)
	out := string(x.Edits[0].Old)
	switch put := string(x.Reg.Text); {
	case r.Lead && out+"\n" != "\n"+put, !r.Lead && put != out && put != out+"\n", !r.Lead && put != out && b < last, !x.Reg.Lines:
		t.Fatalf("d of the lines %d to %d of %.99q takes out %.99q and puts %.99q", a, b, text, out, put)
	case strings.Count(put, "\n") != len(list) && !(a == 0 && b == last):
		t.Fatalf("d of the lines %d to %d of %.99q puts %.99q", a, b, text, put)
	}
	if b < last {
		putBack(t, text, left, start, x.Reg, true)
	} else if a > 0 {
		above, _ := bounds(text, a-1)
		putBack(t, text, left, above, x.Reg, false)
	}
}

func outAndInWhole(t *testing.T, text string) {
	for to := range len(text) + 1 {
		for from := range to {
			outAndIn(t, text, from, to)
		}
	}
	for b := range strings.Count(text, "\n") + 1 {
		for a := range b + 1 {
			if text != "" {
				linesOutAndIn(t, text, a, b)
			}
		}
	}
}

func TestOutAndIn(t *testing.T) {
	for _, text := range append(short("a \n", 6), short("x\t\r\n", 4)...) {
		outAndInWhole(t, text)
	}
	p := picker(193)
	for range 100 {
		outAndInWhole(t, p.text(p.below(40)))
	}
	great := strings.Repeat("ab \n", api.MaxText/4)
	outAndIn(t, great, 0, len(great))
	outAndIn(t, great, 5, len(great)-1)
	linesOutAndIn(t, great, 0, 9999)
	linesOutAndIn(t, great, 77, api.MaxText/4-1)
	linesOutAndIn(t, great[:len(great)-1], 77, api.MaxText/4-1)
	linesOutAndIn(t, great, 1, api.MaxText/4)
}

// turned is the text behind one of g~, gu and gU over a range.
func turned(t *testing.T, text, op string, r api.Range) string {
	t.Helper()
	x, e := oper.Do([]byte(text), 0, op, r, 1)
	if e != api.OK {
		t.Fatalf("%s of %.99q, %+v: %d", op, text, r, e)
	}
	return behind(t, text, x)
}

// lettersBack: P19.4, of one range.
func lettersBack(t *testing.T, text string, r api.Range) {
	if got := turned(t, turned(t, text, "g~", r), "g~", r); got != text {
		t.Fatalf("g~ twice over %+v of %.99q: %.99q", r, text, got)
	}
	low := turned(t, text, "gu", r)
	if got := turned(t, low, "gu", r); got != low {
		t.Fatalf("gu twice over %+v of %.99q: %.99q and then %.99q", r, text, low, got)
	}
	great := turned(t, low, "gU", r)
	for i := range text {
		b, l, g := text[i], low[i], great[i]
		small := b
		if 'A' <= b && b <= 'Z' {
			small = b + 32
		}
		upper := small
		if 'a' <= small && small <= 'z' {
			upper = small - 32
		}
		if i < r.From || i >= r.To {
			small, upper = b, b
		}
		if l != small || g != upper {
			t.Fatalf("byte %d of %.99q, %+v: gu gives %d, gU of that %d", i, text, r, l, g)
		}
	}
	if len(low) != len(text) || len(great) != len(text) {
		t.Fatalf("%.99q has become %.99q and %.99q", text, low, great)
	}
}

func TestLettersBack(t *testing.T) {
	every := make([]byte, 256)
	for b := range every {
		every[b] = byte(b)
	}
	list := append(short("aZ\n", 5), string(every))
	p := picker(194)
	for range 50 {
		list = append(list, p.text(p.below(30)))
	}
	for _, text := range list {
		for to := range len(text) + 1 {
			for from := range to {
				lettersBack(t, text, plain(from, to))
			}
		}
		for r := range read(text).whole {
			lettersBack(t, text, r)
		}
	}
}

// A call is one with its arguments; each time it is called anew.
type call struct {
	name string
	call func(text []byte) (api.Effect, api.Errno)
}

// calls are some of every function and operator, for a text of some lines.
func calls(put []byte) []call {
	var list []call
	for _, op := range operators() {
		for _, r := range []api.Range{plain(1, 3), plain(2, 2), plain(0, 13), whole(0, 5), whole(5, 9), lead(8, 13), lead(4, 13), whole(0, 13)} {
			for _, count := range []int{1, 2} {
				list = append(list, call{op, func(t []byte) (api.Effect, api.Errno) { return oper.Do(t, 2, op, r, count) }})
			}
		}
	}
	for flags := range 4 {
		for at := range 3 {
			r := api.Reg{Set: true, Lines: flags&1 > 0, Text: put}
			list = append(list, call{"Put", func(t []byte) (api.Effect, api.Errno) { return oper.Put(t, 6*at, 1+at, r, flags&2 > 0) }})
		}
	}
	for count := range 4 {
		list = append(list,
			call{"Over", func(t []byte) (api.Effect, api.Errno) { return oper.Over(t, 1, count, 'x') }},
			call{"Over", func(t []byte) (api.Effect, api.Errno) { return oper.Over(t, 1, count, 10) }},
			call{"Turn", func(t []byte) (api.Effect, api.Errno) { return oper.Turn(t, 1, count) }},
			call{"Join", func(t []byte) (api.Effect, api.Errno) { return oper.Join(t, 1, count) }})
	}
	for _, key := range []string{"i", "a", "I", "A", "o", "O", "R", "x"} {
		list = append(list, call{key, func(t []byte) (api.Effect, api.Errno) { return oper.Enter(t, 6, key) }})
	}
	return list
}

// withRoom is a text with spare room behind it that is filled, so that a write into it is seen.
func withRoom(text string) (all, part []byte) {
	all = append([]byte(text), "#spare#"...)
	return all, all[:len(text)]
}

const several = " aBc\n dE\n\t fg"

func TestArgumentsAreLeftAlone(t *testing.T) {
	for _, fill := range []string{"p", "p\nq", "p\n", "\n"} {
		all, part := withRoom(several)
		allPut, put := withRoom(fill)
		before, beforePut := bytes.Clone(all), bytes.Clone(allPut)
		for _, c := range calls(put) {
			c.call(part)
			if !bytes.Equal(all, before) || !bytes.Equal(allPut, beforePut) {
				t.Fatalf("%s: the text is now %q, the register %q", c.name, all, allPut)
			}
		}
	}
}

// fill writes over a list, up to the end of its room.
func fill(list []byte, b byte) {
	list = list[:cap(list)]
	for i := range list {
		list[i] = b
	}
}

// parts are all lists of bytes of an effect.
func parts(x api.Effect) [][]byte {
	list := [][]byte{x.Reg.Text}
	for _, e := range x.Edits {
		list = append(list, e.Old, e.New)
	}
	return list
}

func copies(lists [][]byte) [][]byte {
	list := make([][]byte, len(lists))
	for i := range lists {
		list[i] = bytes.Clone(lists[i])
	}
	return list
}

// What is answered is memory of its own, up to the end of its room: it shares none with the arguments, with another answer or with a part of its own.
func TestAnswersShareNothing(t *testing.T) {
	for _, content := range []string{"p", "p\nq", "p\n", "\n"} {
		all, part := withRoom(several)
		allPut, put := withRoom(content)
		before, beforePut := bytes.Clone(all), bytes.Clone(allPut)
		for _, c := range calls(put) {
			one, _ := c.call(part)
			two, _ := c.call(part)
			want := tell(two, 0)
			lists := parts(one)
			for i := range lists {
				kept := copies(lists)
				fill(lists[i], '1')
				for j := range lists {
					if j != i && !bytes.Equal(lists[j], kept[j]) {
						t.Fatalf("%s: two lists of %v are one", c.name, want)
					}
				}
			}
			room := one.Edits[:cap(one.Edits)]
			for i := range room {
				room[i] = api.Edit{At: -7}
			}
			if !tell(two, 0).is(want) || !bytes.Equal(all, before) || !bytes.Equal(allPut, beforePut) {
				t.Fatalf("%s: %v shares with another answer, the text or the register", c.name, want)
			}
			three, _ := c.call(part)
			fill(all, '3')
			fill(allPut, '3')
			if !tell(three, 0).is(want) || !tell(two, 0).is(want) {
				t.Fatalf("%s: %v shares with the text or the register, or isn't answered twice", c.name, want)
			}
			copy(all, before)
			copy(allPut, beforePut)
		}
	}
}

// nil and empty are one and the same in what is handed in.
func TestNilIsTheEmptyText(t *testing.T) {
	for _, text := range [][]byte{nil, {}} {
		for _, put := range [][]byte{nil, {}} {
			for _, c := range calls(put) {
				x, e := c.call(text)
				other, f := c.call([]byte{})
				if !tell(x, e).is(tell(other, f)) {
					t.Errorf("%s: %v and %v", c.name, tell(x, e), tell(other, f))
				}
			}
		}
		for _, op := range operators() {
			for _, r := range []api.Range{plain(0, 0), whole(0, 0), lead(0, 0), whole(0, 1)} {
				x, e := oper.Do(text, 0, op, r, 1)
				if want := read("").do(0, op, r, 1); !tell(x, e).is(want) {
					t.Errorf("%s: %v; want %v", op, tell(x, e), want)
				}
			}
		}
	}
}

// Beside an error every other result is zero, the lists nil too.
func TestNothingBesideAnError(t *testing.T) {
	seen := map[api.Errno]int{}
	note := func(x api.Effect, e api.Errno) {
		if e == api.OK {
			return
		}
		seen[e]++
		if x.Edits != nil || x.Reg.Text != nil || !tell(x, e).is(refused(e)) {
			t.Errorf("beside %d: %+v", e, x)
		}
	}
	text := []byte(several)
	note(oper.Do(text, 99, "d", plain(0, 1), 1))
	note(oper.Do(text, 0, "d", plain(1, 1), 1))
	note(oper.Do(text, 0, ">", whole(0, 13), 9999))
	note(oper.Do([]byte(strings.Repeat("x\n", 9)), 0, ">", whole(0, 18), 9999))
	note(oper.Put(text, 0, 1, api.Reg{Text: text}, true))
	note(oper.Put(text, 0, 9999, api.Reg{Set: true, Text: text}, true))
	note(oper.Put(text, 0, 0, api.Reg{Set: true, Text: text}, true))
	note(oper.Over(text, 1, 9, 'x'))
	note(oper.Turn(text, 4, 9))
	note(oper.Join(text, 0, 9))
	note(oper.Join(text, 0, -1))
	note(oper.Enter(text, 0, "u"))
	if list := []int{seen[api.ErrArg], seen[api.ErrOper], seen[api.ErrLong], seen[api.ErrEmpty]}; !slices.Equal(list, []int{4, 4, 2, 1}) {
		t.Errorf("%v", seen)
	}
}
