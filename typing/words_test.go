package typing_test

import (
	"regexp"
	"slices"
	"strings"

	"quoin/api"
)

// The chapter's words over texts as strings; the program's own functions are not asked.

// A note is a typing such as can be held against another by ==.
type note struct {
	kind                byte
	start, under, count int
	typed               string
}

func noted(y api.Typing) note {
	return note{y.Kind, y.Start, y.Under, y.Count, string(y.Typed)}
}

// typing is what the program is handed: each time new memory.
func (n note) typing() api.Typing {
	return api.Typing{Kind: n.kind, Start: n.start, Under: n.under, Count: n.count, Typed: []byte(n.typed)}
}

const (
	wrongArg = 2
	noKey    = 200
)

func isTextByte(b byte) bool { return b == 9 || b == 10 || 32 <= b && b <= 126 || b >= 128 }

// wordCovers is how many bytes of base these bytes cover from a place on.
func wordCovers(base string, start int, put string) int {
	line, _, _ := strings.Cut(base[start:], "\n")
	covered := 0
	for i := range len(put) {
		if put[i] != '\n' && covered < len(line) {
			covered++
		}
	}
	return covered
}

// over is the same with kind R; kind i covers nothing.
func (n note) over(base, put string) int {
	if n.kind == 'R' {
		return wordCovers(base, n.start, put)
	}
	return 0
}

func (n note) fits(base string) bool {
	for i := range len(n.typed) {
		if !isTextByte(n.typed[i]) {
			return false
		}
	}
	return (n.kind == 'i' || n.kind == 'R') && 0 <= n.start && n.start <= len(base) && 1 <= n.count && n.count <= 9999 && n.under == n.over(base, n.typed)
}

func (n note) shown(base string) string {
	return base[:n.start] + n.typed + base[n.start+n.under:]
}

func (n note) check(base string) api.Errno {
	if !n.fits(base) || len(n.shown(base)) > 65536 {
		return wrongArg
	}
	return 0
}

// A pressed is all that Press answers.
type pressed struct {
	note
	on bool
	e  api.Errno
}

func refused(e api.Errno) pressed { return pressed{e: e} }

func (n note) press(base string, key byte) pressed {
	if !n.fits(base) {
		return refused(wrongArg)
	}
	if key == 27 {
		return pressed{note: n}
	}
	left, can := wordTyped(n.typed, key)
	if !can {
		return refused(noKey)
	}
	n.typed = left
	n.under = n.over(base, left)
	return pressed{n, true, 0}
}

// kinds are those of the bytes, each told by a letter: blank, punct, word and line end.
func kinds(text string) string {
	list := make([]byte, len(text))
	for i := range list {
		switch b := text[i]; {
		case b == ' ' || b == '\t':
			list[i] = 'b'
		case b == '\n':
			list[i] = 'n'
		case b == '_' || b >= 128 || strings.IndexByte("abcdefghijklmnopqrstuvwxyzABCDEFGHIJKLMNOPQRSTUVWXYZ0123456789", b) >= 0:
			list[i] = 'w'
		default:
			list[i] = 'p'
		}
	}
	return string(list)
}

var lastWord = regexp.MustCompile(`(w+|p+|)b*$`)

// wordTyped is what is typed behind a key that isn't Escape.
func wordTyped(typed string, key byte) (string, bool) {
	most := len(typed) - 1
	switch {
	case slices.Contains([]byte{8, 127, 21, 23}, key) && typed == "":
		return "", false
	case key == 8 || key == 127 || key == 23 && typed[most] == '\n':
		return typed[:most], true
	case key == 23:
		return typed[:lastWord.FindStringIndex(kinds(typed))[0]], true
	case key == 21 && typed[most] == '\n':
		return "", false
	case key == 21:
		pieces := strings.SplitAfter(typed, "\n")
		return strings.Join(pieces[:len(pieces)-1], ""), true
	case key == 10 || key == 13:
		return typed + "\n", true
	case isTextByte(key):
		return typed + string([]byte{key}), true
	}
	return "", false
}

// A told is what Show or Finish answers: a text or an edit, and a place.
type told struct {
	edits    int
	at       int
	old, new string
	place    int
}

func (n note) show(base string) (string, int) {
	if !n.fits(base) {
		return base, 0
	}
	return n.shown(base), n.start + len(n.typed)
}

func (n note) finish(base string) told {
	if !n.fits(base) {
		return told{}
	}
	put := n.typed
	// The text has at least as many bytes as the copies, and as base: so no great one is made only to be dropped.
	if max(len(base), n.count*len(n.typed)) <= 65536 {
		put = strings.Repeat(n.typed, n.count)
	}
	behind := func() string { return base[:n.start] + put + base[n.start+n.over(base, put):] }
	if len(behind()) > 65536 {
		put = n.typed
	}
	place := n.start + len(put)
	if text := behind(); place > 0 && text[place-1] != '\n' {
		place--
	}
	if put == "" {
		return told{place: place}
	}
	return told{1, n.start, base[n.start : n.start+n.over(base, put)], put, place}
}
