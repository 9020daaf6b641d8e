package class_test

import "strings"

// The letters and brackets written out, so that what is asked hangs on no order of the bytes.
const (
	small    = "abcdefghijklmnopqrstuvwxyz"
	great    = "ABCDEFGHIJKLMNOPQRSTUVWXYZ"
	digits   = "0123456789"
	openers  = "([{"
	closers  = ")]}"
	blanks   = " \t"
	anyOther = "_"
)

// The kinds as the chapter numbers them.
const (
	kindBlank = 0
	kindPunct = 1
	kindWord  = 2
	kindBreak = 3
)

func isOneOf(b byte, list string) bool { return strings.IndexByte(list, b) >= 0 }

func wordOf(b byte, big bool) int {
	kind := kindPunct
	if b > 127 || isOneOf(b, small+great+digits+anyOther) {
		kind = kindWord
	}
	if isOneOf(b, blanks) {
		kind = kindBlank
	}
	if b == 10 {
		kind = kindBreak
	}
	if big && kind == kindPunct {
		kind = kindWord
	}
	return kind
}

// swapped is the byte that stands in to where b stands in from, or b, if it doesn't stand there.
func swapped(b byte, from, to string) byte {
	if i := strings.IndexByte(from, b); i >= 0 {
		return to[i]
	}
	return b
}

func wordUpper(b byte) byte  { return swapped(b, small, great) }
func wordLower(b byte) byte  { return swapped(b, great, small) }
func wordToggle(b byte) byte { return swapped(b, small+great, great+small) }

func wordPartner(b byte) (other byte, opens, ok bool) {
	if !isOneOf(b, openers+closers) {
		return 0, false, false
	}
	return swapped(b, openers+closers, closers+openers), isOneOf(b, openers), true
}

// wordRuns lets each run take in bytes of the kind of its first one as long as it may.
func wordRuns(t []byte, big bool) []int {
	var ends []int
	for at := 0; at < len(t); {
		kind := wordOf(t[at], big)
		for at < len(t) && wordOf(t[at], big) == kind {
			at++
		}
		ends = append(ends, at)
	}
	return ends
}
