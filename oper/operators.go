package oper

import (
	"bytes"

	"quoin/api"
	"quoin/class"
	"quoin/extent"
	"quoin/lines"
)

// widest is how many bytes 32 count as much as one byte 9.
const widest = 8

// A task is what an operator is given, all of it known to be right: a and b are the first and the last one of r's lines.
type task struct {
	text  []byte
	at    int
	r     api.Range
	a, b  int
	count int
}

type operator func(k task) (api.Effect, api.Errno)

func operators() map[string]operator {
	return map[string]operator{
		"d":  remove,
		"c":  replace,
		"y":  yank,
		">":  indent,
		"<":  outdent,
		"g~": letters(class.Toggle),
		"gu": letters(class.Lower),
		"gU": letters(class.Upper),
	}
}

// isIdle: whether an operator can do nothing, if its range has no byte.
func isIdle(op string, whole bool) bool {
	if whole {
		return op == "d"
	}
	return op != "c"
}

// linesOf tells the first and the last one of r's lines, and whether r is right.
func linesOf(t []byte, at int, r api.Range) (a, b int, right bool) {
	if r.From < 0 || r.From > r.To || r.To > len(t) {
		return 0, 0, false
	}
	a, _ = lines.Of(t, r.From)
	if !r.Lines {
		b, _ = lines.Of(t, max(r.From, r.To-1))
		return a, b, true
	}
	if r.Lead {
		a++
	}
	b, _ = lines.Of(t, r.To)
	line, _ := lines.Of(t, at)
	// Where To is a line's start, the range ends with the line ahead of it; but a last line without bytes, which starts at the text's end, may be meant too.
	full := isWhole(t, a, b, r)
	if isWhole(t, a, b-1, r) && (!full || line < b) {
		return a, b - 1, true
	}
	return a, b, full
}

func isWhole(t []byte, a, b int, r api.Range) bool {
	whole, e := extent.Whole(t, a, b)
	return e == api.OK && whole == r
}

// taken is an effect that has only filled a register yet, with what is taken out.
func (k task) taken() api.Effect {
	reg, _ := extent.Take(k.text, k.r)
	if k.r.Lines || bytes.Contains(reg.Text, []byte{lineEnd}) {
		return api.Effect{Reg: reg, How: api.Deleted}
	}
	return api.Effect{Reg: reg, How: api.Small}
}

// home is the cursor of what leaves it in its column.
func (k task) home() int {
	if !k.r.Lines {
		return k.r.From
	}
	column, _ := lines.Column(k.text, k.at)
	at, _ := lines.At(k.text, k.a, column)
	return at
}

func remove(k task) (api.Effect, api.Errno) {
	x := k.taken()
	x.Edits, x.Cursor = swap(k.text, k.r.From, k.r.To, nil), k.r.From
	if k.r.Lines {
		x.Cursor = firstBehind(k.text, x.Edits, k.a)
	}
	return x, api.OK
}

// replace leaves a line to type into, where whole lines are meant.
func replace(k task) (api.Effect, api.Errno) {
	from, to := k.r.From, k.r.To
	if !k.r.Lines && from == to {
		return api.Effect{Cursor: from, Type: true}, api.OK
	}
	if k.r.Lines {
		from, _ = lines.Start(k.text, k.a)
		to, _ = lines.End(k.text, k.b)
	}
	x := k.taken()
	x.Edits, x.Cursor, x.Type = swap(k.text, from, to, nil), from, true
	return x, api.OK
}

func yank(k task) (api.Effect, api.Errno) {
	reg, _ := extent.Take(k.text, k.r)
	return api.Effect{Reg: reg, How: api.Yanked, Cursor: k.home()}, api.OK
}

// letters is the operator that puts turn of each byte in its place.
func letters(turn func(b byte) byte) operator {
	return func(k task) (api.Effect, api.Errno) {
		from, to := k.r.From, k.r.To
		return api.Effect{Edits: swap(k.text, from, to, each(k.text[from:to], turn)), Cursor: k.home()}, api.OK
	}
}

func indent(k task) (api.Effect, api.Errno) {
	return k.shift(func(line []byte) (out, in int) {
		if len(line) == 0 {
			return 0, 0
		}
		return 0, k.count
	})
}

func outdent(k task) (api.Effect, api.Errno) {
	return k.shift(func(line []byte) (out, in int) { return margin(line, k.count), 0 })
}

// shift makes an edit of each line at whose head so many bytes go out, or so many bytes 9 in, as head says.
func (k task) shift(head func(line []byte) (out, in int)) (api.Effect, api.Errno) {
	var edits []api.Edit
	grown := 0
	start, _ := lines.Start(k.text, k.a)
	for range k.b - k.a + 1 {
		end := start + onward(k.text, start)
		out, in := head(k.text[start:end])
		if grown+in > api.MaxText {
			return api.Effect{}, api.ErrLong
		}
		if out+in > 0 {
			edits = append(edits, api.Edit{At: start + grown, Old: bytes.Clone(k.text[start : start+out]), New: bytes.Repeat([]byte{tab}, in)})
		}
		grown += in - out
		start = end + 1
	}
	// Only the first edit may be of line a, and the others, which stand behind it, don't move it.
	return api.Effect{Edits: edits, Cursor: firstBehind(k.text, edits[:min(1, len(edits))], k.a)}, api.OK
}

// margin is how many bytes go from a line's head, if count times a step is taken away.
func margin(line []byte, count int) int {
	n := 0
	for range count {
		one := step(line[n:])
		if one == 0 {
			break
		}
		n += one
	}
	return n
}

// step is one byte 9 at a line's head, or else some bytes 32.
func step(line []byte) int {
	if bytes.HasPrefix(line, []byte{tab}) {
		return 1
	}
	line = line[:min(widest, len(line))]
	return len(line) - len(bytes.TrimLeft(line, " "))
}
