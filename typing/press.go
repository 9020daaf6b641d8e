package typing

import (
	"bytes"

	"quoin/class"
)

// The kinds of typing.
const (
	between = 'i'
	over    = 'R'
)

// The keys and bytes that have a meaning of their own here.
const (
	backspace = 8
	tab       = 9
	lineEnd   = 10
	enter     = 13
	lineBack  = 21
	wordBack  = 23
	escape    = 27
	firstText = 32
	rubout    = 127
)

func isText(b byte) bool {
	return b == tab || b == lineEnd || b >= firstText && b != rubout
}

// pressed is what is typed behind a key; false: the key can do nothing.
func pressed(typed []byte, key byte) ([]byte, bool) {
	switch key {
	case backspace, rubout, lineBack, wordBack:
		return taken(typed, key)
	case enter:
		key = lineEnd
	}
	if !isText(key) {
		return nil, false
	}
	return append(typed, key), true
}

// taken is what a key that takes away leaves; false: there is nothing for it.
func taken(typed []byte, key byte) ([]byte, bool) {
	last := len(typed) - 1
	switch {
	case last < 0:
		return nil, false
	case key == lineBack && typed[last] == lineEnd:
		return nil, false
	case key == lineBack:
		return typed[:bytes.LastIndexByte(typed, lineEnd)+1], true
	case key == wordBack && typed[last] != lineEnd:
		return withoutWord(typed), true
	}
	return typed[:last], true
}

// withoutWord is what stands ahead of the last word, or of the last puncts, and of the blanks behind it.
func withoutWord(typed []byte) []byte {
	typed = withoutEnd(typed, class.Blank)
	if len(typed) == 0 {
		return typed
	}
	kind := class.Of(typed[len(typed)-1], false)
	if kind == class.Break {
		return typed
	}
	return withoutEnd(typed, kind)
}

func withoutEnd(typed []byte, kind int) []byte {
	for len(typed) > 0 && class.Of(typed[len(typed)-1], false) == kind {
		typed = typed[:len(typed)-1]
	}
	return typed
}
