package word_test

import (
	"slices"
	"strings"

	"quoin/api"
)

// The kinds as the document's words tell them, written out by hand and not taken from package class.
const (
	blank = iota
	punct
	letter
	lineEnd
)

const wordBytes = "abcdefghijklmnopqrstuvwxyzABCDEFGHIJKLMNOPQRSTUVWXYZ0123456789_"

func kindOf(b byte) int {
	switch {
	case b == 10:
		return lineEnd
	case b == 32 || b == 9:
		return blank
	case b >= 128 || strings.IndexByte(wordBytes, b) >= 0:
		return letter
	}
	return punct
}

// bigKindOf: punct counts as word.
func bigKindOf(b byte) int {
	if kind := kindOf(b); kind != punct {
		return kind
	}
	return letter
}

// A run is a stretch of bytes of one kind, from its first byte to its last.
type run struct {
	first, last int
}

func runsOf(t []byte, kind func(byte) int) []run {
	var list []run
	for i, b := range t {
		switch {
		case kind(b) == blank || kind(b) == lineEnd:
		case i > 0 && kind(t[i-1]) == kind(b):
			list[len(list)-1].last = i
		default:
			list = append(list, run{i, i})
		}
	}
	return list
}

// emptiesOf is the starts of the lines without bytes, found by cutting the text at its line ends.
func emptiesOf(t []byte) []int {
	var list []int
	start := 0
	for _, line := range strings.Split(string(t), "\n") {
		if line == "" {
			list = append(list, start)
		}
		start += len(line) + 1
	}
	return list
}

// A page is a text with all that is found out once about it, by each of both kinds.
type page struct {
	text       []byte
	empties    []int
	small, big stops
}

type stops struct {
	beginnings, endings, halts []int
}

func stopsOf(t []byte, empties []int, kind func(byte) int) stops {
	var s stops
	for _, r := range runsOf(t, kind) {
		s.beginnings = append(s.beginnings, r.first)
		s.endings = append(s.endings, r.last)
	}
	s.beginnings = append(s.beginnings, empties...)
	s.halts = append(slices.Clone(s.endings), empties...)
	slices.Sort(s.beginnings)
	slices.Sort(s.halts)
	return s
}

func pageOf(t []byte) page {
	empties := emptiesOf(t)
	return page{t, empties, stopsOf(t, empties, kindOf), stopsOf(t, empties, bigKindOf)}
}

func keys() []string { return []string{"w", "b", "e", "ge", "W", "B", "E", "gE"} }

func isKey(key string) bool { return slices.Contains(keys(), key) }

func (p page) stops(key string) stops {
	if key == strings.ToLower(key) {
		return p.small
	}
	return p.big
}

// nthAbove and nthBelow are the n-th of a rising list on one side of a place; with fewer: other.
func nthAbove(list []int, at, n, other int) int {
	i, _ := slices.BinarySearch(list, at+1)
	if i+n-1 < len(list) {
		return list[i+n-1]
	}
	return other
}

func nthBelow(list []int, at, n, other int) int {
	i, _ := slices.BinarySearch(list, at)
	if i-n >= 0 {
		return list[i-n]
	}
	return other
}

// wordMove is the chapter's table.
func wordMove(p page, at, count int, key string) answer {
	if at < 0 || at > len(p.text) || count < 0 || count > 9999 || !isKey(key) {
		return refused(api.ErrArg)
	}
	n := count
	if n == 0 {
		n = 1
	}
	s := p.stops(key)
	switch key {
	case "w", "W":
		if at == len(p.text) {
			return refused(api.ErrMove)
		}
		return exclusive(at, nthAbove(s.beginnings, at, n, len(p.text)))
	case "e", "E":
		if len(s.endings) == 0 || s.endings[len(s.endings)-1] <= at {
			return refused(api.ErrMove)
		}
		return inclusive(at, nthAbove(s.endings, at, n, s.endings[len(s.endings)-1]))
	}
	if at == 0 {
		return refused(api.ErrMove)
	}
	if key == "b" || key == "B" {
		return exclusive(at, nthBelow(s.beginnings, at, n, 0))
	}
	return inclusive(at, nthBelow(s.halts, at, n, 0))
}
