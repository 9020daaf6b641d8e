package seek_test

import (
	"slices"
	"strings"

	"quoin/api"
)

const keys = "fFtT"

func isKey(key byte) bool { return strings.IndexByte(keys, key) >= 0 }

// lineOf is the start and the bytes of a place's line, found by going from the place both ways till a line end.
func lineOf(t []byte, at int) (int, []byte) {
	start, end := at, at
	for start > 0 && t[start-1] != 10 {
		start--
	}
	for end < len(t) && t[end] != 10 {
		end++
	}
	return start, t[start:end]
}

// found is the places of a line's bytes ahead of at or back of it that hold arg, the nearest first; over is left out.
func found(t []byte, at, over int, f api.Find) []int {
	start, line := lineOf(t, at)
	var ahead, back []int
	for i := range len(line) {
		switch p := start + i; {
		case line[i] != f.Arg || p == over:
		case p > at:
			ahead = append(ahead, p)
		case p < at:
			back = append(back, p)
		}
	}
	if f.Key == 'f' || f.Key == 't' {
		return ahead
	}
	slices.Reverse(back)
	return back
}

// nth is the target that the chapter gives for the byte number count of those found.
func nth(list []int, at, count int, key byte) answer {
	if count == 0 {
		count = 1
	}
	if len(list) < count {
		return refused(api.ErrMove)
	}
	p := list[count-1]
	switch key {
	case 'f':
		return inclusive(at, p)
	case 't':
		return inclusive(at, p-1)
	case 'F':
		return exclusive(at, p)
	}
	return exclusive(at, p+1)
}

func wrongNumbers(t []byte, at, count int) bool {
	return at < 0 || at > len(t) || count < 0 || count > 9999
}

// wordMove is Move by the chapter's words.
func wordMove(t []byte, at, count int, f api.Find) answer {
	if wrongNumbers(t, at, count) || !isKey(f.Key) {
		return refused(api.ErrArg)
	}
	return nth(found(t, at, -1, f), at, count, f.Key)
}

// wordAgain is Again by the chapter's words.
func wordAgain(t []byte, at, count int, f api.Find, turned bool) answer {
	switch {
	case wrongNumbers(t, at, count):
		return refused(api.ErrArg)
	case f.Key == 0:
		return refused(api.ErrMove)
	case !isKey(f.Key):
		return refused(api.ErrArg)
	}
	if turned {
		f.Key = map[byte]byte{'f': 'F', 'F': 'f', 't': 'T', 'T': 't'}[f.Key]
	}
	over := -1
	switch f.Key {
	case 't':
		over = at + 1
	case 'T':
		over = at - 1
	}
	return nth(found(t, at, over, f), at, count, f.Key)
}
