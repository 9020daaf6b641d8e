package pattern

import (
	"math"

	"quoin/class"
)

// none is told for the beginning of a match where there is none. It is above every place, so the least of several beginnings is never it while there is another.
const none = math.MaxInt

// A search goes over a line byte by byte and never back, however many matches may yet come of what it has seen: of all that have got equally far into the pattern only the one that began first can be told.
type search struct {
	things []thing
	line   []byte
	begun  []int // of each number of things: the least place from which so many match up to here, or none
	next   []int // the same one byte further on
}

func newSearch(things []thing, line []byte) *search {
	return &search{things: things, line: line, begun: make([]int, len(things)+1), next: make([]int, len(things)+1)}
}

// from is Find.
func (s *search) from(from int) (a, b int, ok bool) {
	fill(s.begun)
	for at := from; at <= len(s.line); at++ {
		if !ok {
			s.begun[0] = min(s.begun[0], at)
		}
		s.passFree(at)
		if whole := s.begun[len(s.things)]; whole != none && (!ok || whole <= a) {
			a, b, ok = whole, at, true
		}
		if at == len(s.line) || ok && !s.mayBetter(a) {
			break
		}
		s.read(s.line[at])
	}
	return a, b, ok
}

func fill(list []int) {
	for i := range list {
		list[i] = none
	}
}

// mayBetter: is there yet anything that could make a match which begins ahead of a, or a longer one which begins there?
func (s *search) mayBetter(a int) bool {
	for _, begun := range s.begun[:len(s.things)] {
		if begun <= a {
			return true
		}
	}
	return false
}

// passFree goes on over things that need no byte here.
func (s *search) passFree(at int) {
	for k, t := range s.things {
		if s.begun[k] != none && s.isFree(t, at) {
			s.begun[k+1] = min(s.begun[k+1], s.begun[k])
		}
	}
}

func (s *search) isFree(t thing, at int) bool {
	switch t.(type) {
	case many:
		return true
	case lineStart:
		return at == 0
	case lineEnd:
		return at == len(s.line)
	case wordStart:
		return s.isWord(at) && !s.isWord(at-1)
	case wordEnd:
		return s.isWord(at-1) && !s.isWord(at)
	}
	return false
}

// isWord: what lies beyond both ends of the line is no word.
func (s *search) isWord(at int) bool {
	return at >= 0 && at < len(s.line) && class.Of(s.line[at], false) == class.Word
}

// read goes on over things that take this byte.
func (s *search) read(b byte) {
	fill(s.next)
	for k, t := range s.things {
		if s.begun[k] == none {
			continue
		}
		switch t := t.(type) {
		case one:
			if t.allowed.has(b) {
				s.next[k+1] = min(s.next[k+1], s.begun[k])
			}
		case many:
			if t.allowed.has(b) {
				s.next[k] = min(s.next[k], s.begun[k])
			}
		}
	}
	s.begun, s.next = s.next, s.begun
}
