package pins_test

import (
	"math/big"
	"strconv"
	"strings"

	"quoin/api"
)

// The chapter's words over a row of 27 numbers, reckoned by great numbers that are cut down to an int behind each step; the program's own functions are not asked.

// A row is the marks a to z, and then Back.
type row [27]int

const letters = "abcdefghijklmnopqrstuvwxyz"

func asRow(m api.Marks) row {
	var r row
	copy(r[:], m.Names[:])
	r[26] = m.Back
	return r
}

func asMarks(r row) api.Marks {
	return api.Marks{Names: [26]int(r[:26]), Back: r[26]}
}

// placeOf is where the mark with this name stands in a row; -1: no mark has it.
func placeOf(name byte) int {
	if name == 39 || name == 96 {
		return 26
	}
	return strings.IndexByte(letters, name)
}

func wordSet(r row, name byte, at int) (row, api.Errno) {
	if placeOf(name) < 0 {
		return row{}, 160
	}
	if at < 0 {
		return row{}, 2
	}
	r[placeOf(name)] = at
	return r, 0
}

func wordGet(r row, name byte) (int, api.Errno) {
	if placeOf(name) < 0 {
		return 0, 160
	}
	if r[placeOf(name)] < 0 {
		return 0, 161
	}
	return r[placeOf(name)], 0
}

// asInt is a great number as Go's int has it: what is past one end goes on at the other.
func asInt(n *big.Int) int {
	whole := new(big.Int).Lsh(big.NewInt(1), strconv.IntSize)
	half := new(big.Int).Lsh(big.NewInt(1), strconv.IntSize-1)
	low := new(big.Int).Mod(new(big.Int).Add(n, half), whole)
	return int(low.Sub(low, half).Int64())
}

func plus(a, b int) int {
	return asInt(new(big.Int).Add(big.NewInt(int64(a)), big.NewInt(int64(b))))
}

func less(a, b int) int {
	return asInt(new(big.Int).Sub(big.NewInt(int64(a)), big.NewInt(int64(b))))
}

func wordShiftOne(x int, e api.Edit) int {
	o, n := len(e.Old), len(e.New)
	if x < 0 {
		return x
	}
	if x < e.At {
		return x
	}
	if end := plus(e.At, o); x >= end {
		return less(plus(x, n), o)
	}
	if inside := less(x, e.At); inside < n {
		return plus(e.At, inside)
	}
	return plus(e.At, n)
}

func wordMoveOne(x int, edits []api.Edit) int {
	if len(edits) == 0 {
		return x
	}
	return wordMoveOne(wordShiftOne(x, edits[0]), edits[1:])
}

func wordMove(r row, edits []api.Edit) row {
	for i := range r {
		r[i] = wordMoveOne(r[i], edits)
	}
	return r
}

func wordCross(now, was, made row, edits []api.Edit) row {
	var r row
	for i := range r {
		if now[i] != made[i] {
			r[i] = wordMoveOne(now[i], edits)
			continue
		}
		r[i] = was[i]
	}
	return r
}

func wordClip(r row, size int) row {
	if size < 0 {
		size = 0
	}
	for i := range r {
		if r[i] > size {
			r[i] = size
		}
		if r[i] < -1 {
			r[i] = -1
		}
	}
	return r
}

func wordFit(r row, size int) bool {
	fit := 0
	for _, x := range r {
		if x == -1 {
			fit++
		}
		if x >= 0 && x <= size {
			fit++
		}
	}
	return fit == 27
}

// behindAll is the text behind the edits, and whether they fit it.
func behindAll(text string, edits []api.Edit) (string, bool) {
	for _, e := range edits {
		if e.At < 0 || e.At > len(text) || !strings.HasPrefix(text[e.At:], string(e.Old)) {
			return "", false
		}
		text = text[:e.At] + string(e.New) + text[e.At+len(e.Old):]
	}
	return text, true
}

// takenBack are the edits from the last to the first, each the other way.
func takenBack(edits []api.Edit) []api.Edit {
	var list []api.Edit
	for i := range edits {
		e := edits[len(edits)-1-i]
		list = append(list, api.Edit{At: e.At, Old: e.New, New: e.Old})
	}
	return list
}
