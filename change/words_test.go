package change_test

import (
	"fmt"
	"math/big"
	"strconv"

	"quoin/api"
)

// The chapter's words over texts as strings, byte by byte, with At reckoned by great numbers that are cut down to an int; the program's own functions are not asked.

// A swap is an edit that can be held against another by ==.
type swap struct {
	at       int
	old, new string
}

// String: long texts are cut short, as a failed test tells of many.
func (s swap) String() string { return fmt.Sprintf("%d: %.60q -> %.60q", s.at, s.old, s.new) }

func asSwaps(edits []api.Edit) []swap {
	var list []swap
	for _, e := range edits {
		list = append(list, swap{e.At, string(e.Old), string(e.New)})
	}
	return list
}

func asEdits(list []swap) []api.Edit {
	var edits []api.Edit
	for _, s := range list {
		edits = append(edits, api.Edit{At: s.at, Old: []byte(s.old), New: []byte(s.new)})
	}
	return edits
}

// wordFits asks each place of the text whether it is At, and each byte of Old whether it stands there.
func wordFits(text string, s swap) bool {
	for place := range len(text) + 1 {
		if place != s.at {
			continue
		}
		rest := text[place:]
		for i := range len(s.old) {
			if i == len(rest) || rest[i] != s.old[i] {
				return false
			}
		}
		return true
	}
	return false
}

func wordApply(text string, list []swap) (string, api.Errno) {
	if len(list) == 0 {
		return text, 0
	}
	s := list[0]
	if !wordFits(text, s) {
		return "", 170
	}
	return wordApply(text[:s.at]+s.new+text[s.at+len(s.old):], list[1:])
}

func wordInvert(list []swap) []swap {
	if len(list) == 0 {
		return nil
	}
	s := list[0]
	return append(wordInvert(list[1:]), swap{s.at, s.new, s.old})
}

// wordCut tries the longest common beginning first, and then the longest common end.
func wordCut(s swap) swap {
	for n := min(len(s.old), len(s.new)); n > 0; n-- {
		if s.old[:n] == s.new[:n] {
			s = swap{plus(s.at, n), s.old[n:], s.new[n:]}
			break
		}
	}
	for n := min(len(s.old), len(s.new)); n > 0; n-- {
		a, b := len(s.old)-n, len(s.new)-n
		if s.old[a:] == s.new[b:] {
			return swap{s.at, s.old[:a], s.new[:b]}
		}
	}
	return s
}

func wordTrim(list []swap) []swap {
	var some []swap
	for _, s := range list {
		if s.old != s.new {
			some = append(some, wordCut(s))
		}
	}
	return some
}

func wordSize(list []swap) int {
	in, out := "", ""
	for _, s := range list {
		in, out = in+s.new, out+s.old
	}
	return len(in) - len(out)
}

// wordFirst is the At that none is below.
func wordFirst(list []swap) int {
	for _, s := range list {
		lower := 0
		for _, other := range list {
			if other.at < s.at {
				lower++
			}
		}
		if lower == 0 {
			return s.at
		}
	}
	return 0
}

func wordBetween(a, b string) []swap {
	if a == b {
		return nil
	}
	return []swap{wordCut(swap{0, a, b})}
}

// plus is the sum as Go's int has it: what is past one end goes on at the other.
func plus(a, b int) int {
	sum := new(big.Int).Add(big.NewInt(int64(a)), big.NewInt(int64(b)))
	whole := new(big.Int).Lsh(big.NewInt(1), strconv.IntSize)
	half := new(big.Int).Lsh(big.NewInt(1), strconv.IntSize-1)
	low := sum.Mod(sum.Add(sum, half), whole)
	return int(low.Sub(low, half).Int64())
}
