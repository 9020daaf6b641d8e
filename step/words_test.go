package step_test

import (
	"slices"

	"quoin/api"
)

// A row is a line by the document's words, found byte by byte.
type row struct {
	start, end int
}

func rowsOf(t []byte) []row {
	list := []row{{}}
	for i, b := range t {
		last := &list[len(list)-1]
		if b == 10 {
			last.end = i
			list = append(list, row{i + 1, i + 1})
		} else {
			last.end = i + 1
		}
	}
	return list
}

// A page is a text with all that is found out once about it.
type page struct {
	text         []byte
	rows         []row
	rests, stops []int
}

func pageOf(t []byte) page {
	rows := rowsOf(t)
	return page{t, rows, restsOf(rows), stopsOf(rows)}
}

func rowOf(rows []row, at int) int {
	for line, r := range rows {
		if at >= r.start && at <= r.end {
			return line
		}
	}
	return -1
}

func (r row) last() int {
	if r.start == r.end {
		return r.start
	}
	return r.end - 1
}

func (r row) column(c int) int {
	if c < 0 || c >= r.end-r.start {
		return r.last()
	}
	return r.start + c
}

func (r row) first(t []byte) int {
	for at := r.start; at < r.end; at++ {
		if t[at] != 32 && t[at] != 9 {
			return at
		}
	}
	return r.last()
}

// restsOf is every place of the text where a cursor rests, from below: a line's bytes, or the start of a line that has none.
func restsOf(rows []row) []int {
	var list []int
	for _, r := range rows {
		if r.start == r.end {
			list = append(list, r.start)
		}
		for at := r.start; at < r.end; at++ {
			list = append(list, at)
		}
	}
	return list
}

// stopsOf is where the key space may stop.
func stopsOf(rows []row) []int {
	list := restsOf(rows)
	if last := rows[len(rows)-1]; last.start < last.end {
		list = append(list, last.end)
	}
	return list
}

// above are those of a rising list that are greater than at; below those that are less, going down.
func above(list []int, at int) []int {
	var some []int
	for _, p := range list {
		if p > at {
			some = append(some, p)
		}
	}
	return some
}

func below(list []int, at int) []int {
	var some []int
	for i := len(list) - 1; i >= 0; i-- {
		if list[i] < at {
			some = append(some, list[i])
		}
	}
	return some
}

// nth is the n-th of a list, counted from 1; with fewer the last of them.
func nth(list []int, n int) (int, bool) {
	if len(list) == 0 {
		return 0, false
	}
	if n > len(list) {
		n = len(list)
	}
	return list[n-1], true
}

// What a row of the chapter's table tells: the kind, the place, whether the motion leads there, and the column that is wanted then.
type told struct {
	kind   int
	to     int
	ok     bool
	wanted int
}

const theColumnOfTo = -7

func noughtIsOne(count int) int {
	if count == 0 {
		return 1
	}
	return count
}

func wordBytes(p page, at, n int, key string) told {
	r := p.rows[rowOf(p.rows, at)]
	switch key {
	case "h":
		to := at - n
		if to < r.start {
			to = r.start
		}
		return told{api.Exclusive, to, at != r.start, theColumnOfTo}
	case "l":
		to := at + n
		if to > r.end {
			to = r.end
		}
		return told{api.Exclusive, to, at != r.end, theColumnOfTo}
	case " ":
		to, ok := nth(above(p.stops, at), n)
		return told{api.Exclusive, to, ok, theColumnOfTo}
	default:
		to, ok := nth(below(p.rests, at), n)
		return told{api.Exclusive, to, ok, theColumnOfTo}
	}
}

// wordLine is the number of the line that a key leads to.
func wordLine(rows []row, line, count int, key string) int {
	n := noughtIsOne(count)
	switch key {
	case "j", "+", "\r":
		return line + n
	case "k", "-":
		return line - n
	case "_", "$":
		return line + n - 1
	case "gg":
		return n - 1
	case "G":
		if count == 0 {
			return len(rows) - 1
		}
		return n - 1
	default: // 0 ^ |
		return line
	}
}

func wordLines(p page, at, want, count int, key string) told {
	line := wordLine(p.rows, rowOf(p.rows, at), count, key)
	if line < 0 || line >= len(p.rows) {
		return told{}
	}
	r := p.rows[line]
	switch key {
	case "j", "k":
		return told{api.Linewise, r.column(want), true, want}
	case "0":
		return told{api.Exclusive, r.start, true, 0}
	case "^":
		return told{api.Exclusive, r.first(p.text), true, theColumnOfTo}
	case "$":
		return told{api.Exclusive, r.end, true, -1}
	case "|":
		n := noughtIsOne(count)
		return told{api.Exclusive, r.column(n - 1), true, n - 1}
	default:
		return told{api.Linewise, r.first(p.text), true, theColumnOfTo}
	}
}

func isKey(key string) bool { return slices.Contains(keys(), key) }

func keys() []string {
	return []string{"h", "l", " ", "\x08", "j", "k", "+", "\x0d", "-", "_", "0", "^", "$", "|", "G", "gg"}
}

func wordMove(p page, at, want, count int, key string) answer {
	if at < 0 || at > len(p.text) || want < -1 || count < 0 || count > 9999 || !isKey(key) {
		return answer{e: api.ErrArg}
	}
	var w told
	switch key {
	case "h", "l", " ", "\x08":
		w = wordBytes(p, at, noughtIsOne(count), key)
	default:
		w = wordLines(p, at, want, count, key)
	}
	if !w.ok {
		return answer{e: api.ErrMove}
	}
	if w.wanted == theColumnOfTo {
		w.wanted = w.to - p.rows[rowOf(p.rows, w.to)].start
	}
	return answer{api.Target{From: at, To: w.to, Kind: w.kind}, w.wanted, api.OK}
}
