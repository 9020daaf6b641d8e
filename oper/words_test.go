package oper_test

import (
	"fmt"
	"slices"
	"strings"

	"quoin/api"
)

// The chapter's words over a text as a string, which each edit makes anew; the program's own functions are not asked.

// A swap is an edit, and a told all that a call answers, such as can be held against others by ==.
type swap struct {
	at       int
	old, new string
}

type told struct {
	edits []swap
	rest
}

type rest struct {
	cursor     int
	set, lines bool
	reg        string
	how        int
	types      bool
	e          api.Errno
}

// String: long texts are cut short, as a failed test tells of many.
func (x told) String() string {
	return fmt.Sprintf("%.300q %.200q", fmt.Sprint(x.edits), fmt.Sprint(x.rest))
}

func (x told) is(y told) bool { return x.rest == y.rest && slices.Equal(x.edits, y.edits) }

func tell(x api.Effect, e api.Errno) told {
	var list []swap
	for _, e := range x.Edits {
		list = append(list, swap{e.At, string(e.Old), string(e.New)})
	}
	return told{list, rest{x.Cursor, x.Reg.Set, x.Reg.Lines, string(x.Reg.Text), x.How, x.Type, e}}
}

func refused(e api.Errno) told { return told{nil, rest{e: e}} }

const (
	wrongArg  = 2
	tooLong   = 1
	noContent = 151
	noWork    = 190
)

// A doing is a text in which edits are made one behind the other.
type doing struct {
	text  string
	edits []swap
}

func (d *doing) put(at, length int, text string) {
	old := d.text[at : at+length]
	if old == text {
		return
	}
	d.edits = append(d.edits, swap{at, old, text})
	d.text = d.text[:at] + text + d.text[at+length:]
}

func lineOf(t string, at int) int { return strings.Count(t[:at], "\n") }

// bounds is where the line of this number starts and ends.
func bounds(t string, line int) (start, end int) {
	list := strings.Split(t, "\n")
	for _, ahead := range list[:line] {
		start += len(ahead) + 1
	}
	return start, start + len(list[line])
}

// wordFirst is the first byte of a line that isn't blank, or else its last one, or its start.
func wordFirst(t string, line int) int {
	start, end := bounds(t, line)
	for at := start; at < end; at++ {
		if t[at] != ' ' && t[at] != '\t' {
			return at
		}
	}
	return max(start, end-1)
}

func isByte(t string, at int) bool { return at < len(t) && t[at] != '\n' }

// A reading is a text and the lines that each range of whole lines may be, the lower last line first.
type reading struct {
	text  string
	whole map[api.Range][][2]int
}

func read(t string) reading {
	w := reading{t, map[api.Range][][2]int{}}
	count := strings.Count(t, "\n") + 1
	for a := range count {
		for b := a; b < count; b++ {
			r := wordWhole(t, a, b)
			w.whole[r] = append(w.whole[r], [2]int{a, b})
		}
	}
	return w
}

func wordWhole(t string, a, b int) api.Range {
	from, _ := bounds(t, a)
	if b < strings.Count(t, "\n") {
		to, _ := bounds(t, b+1)
		return api.Range{From: from, To: to, Lines: true}
	}
	if a > 0 {
		_, end := bounds(t, a-1)
		return api.Range{From: end, To: len(t), Lines: true, Lead: true}
	}
	return api.Range{To: len(t), Lines: true}
}

// lines are those of a range, and whether it is right.
func (w reading) lines(at int, r api.Range) (a, b int, right bool) {
	switch {
	case r.From < 0 || r.From > r.To || r.To > len(w.text):
		return 0, 0, false
	case !r.Lines && r.From == r.To:
		return lineOf(w.text, r.From), lineOf(w.text, r.From), true
	case !r.Lines:
		return lineOf(w.text, r.From), lineOf(w.text, r.To-1), true
	case len(w.whole[r]) == 0:
		return 0, 0, false
	}
	for _, pair := range w.whole[r] {
		if line := lineOf(w.text, at); pair[0] <= line && line <= pair[1] {
			return pair[0], pair[1], true
		}
	}
	return w.whole[r][0][0], w.whole[r][0][1], true
}

func operators() []string { return strings.Fields("d c y > < g~ gu gU") }

func (w reading) do(at int, op string, r api.Range, count int) told {
	if at < 0 || at > len(w.text) || !slices.Contains(operators(), op) || count < 1 || count > 9999 {
		return refused(wrongArg)
	}
	a, b, right := w.lines(at, r)
	if !right {
		return refused(wrongArg)
	}
	if r.From == r.To && (!r.Lines && op != "c" || r.Lines && op == "d") {
		return refused(noWork)
	}
	d := &doing{text: w.text}
	switch op {
	case "d":
		return wordD(d, r, a)
	case "c":
		return wordC(d, r, a, b)
	case "y":
		x := wordTaken(w.text, r)
		x.how, x.cursor = 1, wordHome(w.text, r, at, a)
		return told{nil, x}
	case ">":
		return wordRight(d, a, b, count)
	case "<":
		return wordLeft(d, a, b, count)
	}
	d.put(r.From, r.To-r.From, wordLetters(w.text[r.From:r.To], op))
	return told{d.edits, rest{cursor: wordHome(w.text, r, at, a)}}
}

// wordTaken is what goes into a register of a range that is right, and how.
func wordTaken(t string, r api.Range) rest {
	text, how := t[r.From:r.To], 3
	if r.Lead && r.Lines {
		text = text[1:] + "\n"
	} else if r.Lines && !strings.HasSuffix(text, "\n") {
		text += "\n"
	}
	if r.Lines || strings.Contains(text, "\n") {
		how = 2
	}
	return rest{set: true, lines: r.Lines, reg: text, how: how}
}

func wordHome(t string, r api.Range, at, a int) int {
	if !r.Lines {
		return r.From
	}
	own, _ := bounds(t, lineOf(t, at))
	start, end := bounds(t, a)
	return min(start+at-own, max(start, end-1))
}

func wordD(d *doing, r api.Range, a int) told {
	x := wordTaken(d.text, r)
	d.put(r.From, r.To-r.From, "")
	x.cursor = r.From
	if r.Lines {
		x.cursor = wordFirst(d.text, min(a, strings.Count(d.text, "\n")))
	}
	return told{d.edits, x}
}

func wordC(d *doing, r api.Range, a, b int) told {
	x := rest{cursor: r.From, types: true}
	from, to := r.From, r.To
	if r.Lines {
		from, _ = bounds(d.text, a)
		_, to = bounds(d.text, b)
	}
	if r.Lines || r.From < r.To {
		x = wordTaken(d.text, r)
		x.cursor, x.types = from, true
		d.put(from, to-from, "")
	}
	return told{d.edits, x}
}

func wordRight(d *doing, a, b, count int) told {
	tabs := 0
	for line := a; line <= b; line++ {
		if start, end := bounds(d.text, line); start < end {
			d.put(start, 0, strings.Repeat("\t", count))
			tabs += count
		}
		if tabs > 65536 {
			return refused(tooLong)
		}
	}
	return told{d.edits, rest{cursor: wordFirst(d.text, a)}}
}

func wordLeft(d *doing, a, b, count int) told {
	for line := a; line <= b; line++ {
		start, end := bounds(d.text, line)
		left := d.text[start:end]
		for range count {
			switch {
			case strings.HasPrefix(left, "\t"):
				left = left[1:]
			default:
				for range 8 {
					left = strings.TrimPrefix(left, " ")
				}
			}
		}
		d.put(start, end-start-len(left), "")
	}
	return told{d.edits, rest{cursor: wordFirst(d.text, a)}}
}

func wordLetters(text, op string) string {
	list := []byte(text)
	for i, b := range list {
		switch {
		case 'a' <= b && b <= 'z' && op != "gu":
			list[i] = b - 32
		case 'A' <= b && b <= 'Z' && op != "gU":
			list[i] = b + 32
		}
	}
	return string(list)
}

func wordPut(t string, at, count int, r api.Reg, ahead bool) told {
	text := string(r.Text)
	if r.Lines && !strings.HasSuffix(text, "\n") {
		text += "\n"
	}
	switch {
	case at < 0 || at > len(t) || count < 1 || count > 9999:
		return refused(wrongArg)
	case !r.Set:
		return refused(noContent)
	case count*len(text) > 65536:
		return refused(tooLong)
	}
	text = strings.Repeat(text, count)
	d := &doing{text: t}
	line := lineOf(t, at)
	switch {
	case !r.Lines && len(text) == 0:
		return told{nil, rest{cursor: at}}
	case !r.Lines:
		if !ahead && isByte(t, at) {
			at++
		}
		d.put(at, 0, text)
		if strings.Contains(text, "\n") {
			return told{d.edits, rest{cursor: at}}
		}
		return told{d.edits, rest{cursor: at + len(text) - 1}}
	case ahead:
		start, _ := bounds(t, line)
		d.put(start, 0, text)
		return told{d.edits, rest{cursor: wordFirst(d.text, line)}}
	case line < strings.Count(t, "\n"):
		next, _ := bounds(t, line+1)
		d.put(next, 0, text)
	default:
		d.put(len(t), 0, "\n"+text[:len(text)-1])
	}
	return told{d.edits, rest{cursor: wordFirst(d.text, line+1)}}
}

func wordOver(t string, at, count int, b byte) told {
	if at < 0 || at > len(t) || count < 1 || count > 9999 {
		return refused(wrongArg)
	}
	if len(t)-at < count || strings.Contains(t[at:at+count], "\n") {
		return refused(noWork)
	}
	d := &doing{text: t}
	if b == 10 || b == 13 {
		d.put(at, count, "\n")
		return told{d.edits, rest{cursor: at + 1}}
	}
	d.put(at, count, strings.Repeat(string([]byte{b}), count))
	return told{d.edits, rest{cursor: at + count - 1}}
}

func wordTurn(t string, at, count int) told {
	if at < 0 || at > len(t) || count < 1 || count > 9999 {
		return refused(wrongArg)
	}
	if !isByte(t, at) {
		return refused(noWork)
	}
	end := at
	for end-at < count && isByte(t, end) {
		end++
	}
	d := &doing{text: t}
	d.put(at, end-at, wordLetters(t[at:end], "g~"))
	return told{d.edits, rest{cursor: end}}
}

func wordJoin(t string, at, count int) told {
	if at < 0 || at > len(t) || count < 0 || count > 9999 {
		return refused(wrongArg)
	}
	line, k := lineOf(t, at), max(count, 2)
	if line+k-1 > strings.Count(t, "\n") {
		return refused(noWork)
	}
	d := &doing{text: t}
	cursor := 0
	for range k - 1 {
		start, e := bounds(d.text, line)
		_, stop := bounds(d.text, line+1)
		q := e + 1
		for q < stop && strings.Contains(" \t", d.text[q:q+1]) {
			q++
		}
		glue := " "
		if start == e || strings.Contains(" \t", d.text[e-1:e]) || q == stop || d.text[q] == ')' {
			glue = ""
		}
		d.put(e, q-e, glue)
		cursor = e
	}
	return told{d.edits, rest{cursor: cursor}}
}

func wordEnter(t string, at int, key string) told {
	if at < 0 || at > len(t) {
		return refused(wrongArg)
	}
	line := lineOf(t, at)
	start, end := bounds(t, line)
	d := &doing{text: t}
	cursor := at
	switch key {
	case "a":
		if isByte(t, at) {
			cursor = at + 1
		}
	case "I":
		cursor = wordFirst(t, line)
	case "A":
		cursor = end
	case "o":
		d.put(end, 0, "\n")
		cursor = end + 1
	case "O":
		d.put(start, 0, "\n")
		cursor = start
	case "i", "R":
	default:
		return refused(wrongArg)
	}
	return told{d.edits, rest{cursor: cursor, types: true}}
}
