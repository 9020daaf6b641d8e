// Package addbuf is layer 1: see shared/doc/01-addbuf.md.
package addbuf

import (
	"bytes"

	"quoin/api"
)

const (
	lineEnd = 10
	// maxEnd is where a sound span ends at the latest.
	maxEnd = 1 << 62
)

// A Buffer holds the original text, which never changes, and what was added, which only grows.
type Buffer struct {
	original []byte
	added    []byte
}

// New: a buffer over an original text.
func New(original []byte) *Buffer {
	return &Buffer{original: bytes.Clone(original)}
}

// Add: p behind all that was added.
func (b *Buffer) Add(p []byte) api.Span {
	if b == nil {
		return api.Span{}
	}
	span := api.Span{Src: api.Added, Off: len(b.added), Len: len(p)}
	b.added = append(b.added, p...)
	return span
}

// Read: a span's bytes.
func (b *Buffer) Read(s api.Span) ([]byte, api.Errno) {
	if !b.Holds(s) {
		return nil, api.ErrSpan
	}
	return bytes.Clone(b.held(s)), api.OK
}

// Byte: one of a span's bytes.
func (b *Buffer) Byte(s api.Span, i int) (byte, api.Errno) {
	if !b.Holds(s) {
		return 0, api.ErrSpan
	}
	if i < 0 || i >= s.Len {
		return 0, api.ErrArg
	}
	return b.held(s)[i], api.OK
}

// Lines: how many line ends a span has.
func (b *Buffer) Lines(s api.Span) (int, api.Errno) {
	if !b.Holds(s) {
		return 0, api.ErrSpan
	}
	count := 0
	for _, c := range b.held(s) {
		if c == lineEnd {
			count++
		}
	}
	return count, api.OK
}

// LineAt: where in a span its line end number n stands.
func (b *Buffer) LineAt(s api.Span, n int) (int, api.Errno) {
	if !b.Holds(s) {
		return 0, api.ErrSpan
	}
	if n < 0 {
		return 0, api.ErrArg
	}
	left := n
	for at, c := range b.held(s) {
		if c != lineEnd {
			continue
		}
		if left == 0 {
			return at, api.OK
		}
		left--
	}
	return 0, api.ErrArg
}

// Size: how many bytes one of the two holds.
func (b *Buffer) Size(src int) int {
	return len(b.source(src))
}

// Holds: are there such bytes?
func (b *Buffer) Holds(s api.Span) bool {
	return sound(s) && s.Off+s.Len <= b.Size(s.Src)
}

// Joins: the one span that two neighbours make.
func Joins(a, b api.Span) (api.Span, bool) {
	if !sound(a) || !sound(b) || a.Src != b.Src || b.Off != a.Off+a.Len {
		return api.Span{}, false
	}
	// It ends where b ends, so that it is sound as b is: no need to ask.
	return api.Span{Src: a.Src, Off: a.Off, Len: a.Len + b.Len}, true
}

// Cut: a span in two.
func Cut(s api.Span, at int) (api.Span, api.Span, api.Errno) {
	if !sound(s) {
		return api.Span{}, api.Span{}, api.ErrSpan
	}
	if at < 0 || at > s.Len {
		return api.Span{}, api.Span{}, api.ErrArg
	}
	first := api.Span{Src: s.Src, Off: s.Off, Len: at}
	rest := api.Span{Src: s.Src, Off: s.Off + at, Len: s.Len - at}
	return first, rest, api.OK
}

// sound asks by a difference, since Off + Len may be more than an int holds.
func sound(s api.Span) bool {
	known := s.Src == api.Original || s.Src == api.Added
	return known && s.Off >= 0 && s.Len >= 0 && s.Off <= maxEnd-s.Len
}

// source is the buffer's own memory: it must not be handed out.
func (b *Buffer) source(src int) []byte {
	if b == nil {
		return nil
	}
	switch src {
	case api.Original:
		return b.original
	case api.Added:
		return b.added
	}
	return nil
}

// held is the buffer's own memory too; b must hold s.
func (b *Buffer) held(s api.Span) []byte {
	return b.source(s.Src)[s.Off : s.Off+s.Len]
}
