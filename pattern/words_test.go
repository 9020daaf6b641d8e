package pattern_test

import (
	"bytes"
	"slices"
	"strings"

	"quoin/api"
)

// A part is a thing of a pattern by the chapter's words: one of the marks ^ $ < >, or a single ('1'), or any number of it ('*').
type part struct {
	mark   byte
	allows [256]bool
}

func onlyByte(b byte) part {
	p := part{mark: '1'}
	p.allows[b] = true
	return p
}

func anyByte() part {
	p := part{mark: '1'}
	for b := range p.allows {
		p.allows[b] = true
	}
	return p
}

// tokens cuts a pattern from the front, without asking what its tokens mean; a token that isn't whole is the rest of the pattern.
func tokens(p string) []string {
	var list []string
	for p != "" {
		size := 1
		switch {
		case p[0] == '\\':
			size = min(2, len(p))
		case p[0] == '[':
			size = setSize(p)
		}
		list, p = append(list, p[:size]), p[size:]
	}
	return list
}

// setSize: the first item is a byte at least, and no item behind it has a ] in it; so the set ends at the next ] behind that byte.
func setSize(p string) int {
	behind := len(strings.TrimPrefix(p[1:], "^"))
	if behind < 1 {
		return len(p)
	}
	first := len(p) - behind
	if end := strings.IndexByte(p[first+1:], ']'); end >= 0 {
		return first + 1 + end + 1
	}
	return len(p)
}

// isWholeSet: is the token more than [ and [^ and [] and [^], and has an end?
func isWholeSet(token string) bool {
	items := strings.TrimPrefix(token[1:], "^")
	return len(items) >= 2 && strings.HasSuffix(items, "]")
}

// setOf is the set of a whole token, and the places of the ranges that are the wrong way round.
func setOf(token string) (part, []int) {
	items := strings.TrimPrefix(token[1:], "^")
	at := len(token) - len(items)
	items = items[:len(items)-1]
	held := part{mark: '1'}
	var wrong []int
	for items != "" {
		low, high, size := items[0], items[0], 1
		if len(items) >= 3 && items[1] == '-' {
			high, size = items[2], 3
		}
		if high < low {
			wrong = append(wrong, at)
		}
		for b := range held.allows {
			if b >= int(low) && b <= int(high) {
				held.allows[b] = true
			}
		}
		items, at = items[size:], at+size
	}
	if token[1] == '^' {
		for b := range held.allows {
			held.allows[b] = !held.allows[b]
		}
	}
	return held, wrong
}

// wordRead is the pattern's parts and the places of all faults, in any order.
func wordRead(p string) ([]part, []int) {
	var parts []part
	var faults []int
	place := 0
	for i, token := range tokens(p) {
		switch {
		case token == "^" && place == 0:
			parts = append(parts, part{mark: '^'})
		case token == "$" && place == len(p)-1:
			parts = append(parts, part{mark: '$'})
		case token == `\<` || token == `\>`:
			parts = append(parts, part{mark: token[1]})
		case token == "*" && (i == 0 || i == 1 && p[0] == '^'):
			parts = append(parts, onlyByte('*'))
		case token == "*" && parts[len(parts)-1].mark == '1':
			parts[len(parts)-1].mark = '*'
		case token == "*" || token == `\` || token[0] == '[' && !isWholeSet(token):
			faults = append(faults, place)
			parts = append(parts, part{mark: '?'})
		case token[0] == '[':
			held, wrong := setOf(token)
			for _, w := range wrong {
				faults = append(faults, place+w)
			}
			parts = append(parts, held)
		case token == ".":
			parts = append(parts, anyByte())
		default:
			parts = append(parts, onlyByte(token[len(token)-1]))
		}
		place += len(token)
	}
	return parts, faults
}

// wordCompile is Compile by the chapter's words, with the parts in the pattern's place.
func wordCompile(p string) ([]part, int, api.Errno) {
	if len(p) > 256 {
		return nil, 0, api.ErrLong
	}
	parts, faults := wordRead(p)
	if len(faults) > 0 {
		return nil, slices.Min(faults), api.ErrPattern
	}
	return parts, 0, api.OK
}

func isWordByte(b byte) bool {
	return b >= 128 || b == '_' || b >= '0' && b <= '9' || b >= 'a' && b <= 'z' || b >= 'A' && b <= 'Z'
}

// holdsAt: does a part that takes no byte hold at this place?
func holdsAt(mark byte, line []byte, at int) bool {
	ahead, behind := line[:at], line[at:]
	wordAhead := len(ahead) > 0 && isWordByte(ahead[len(ahead)-1])
	wordBehind := len(behind) > 0 && isWordByte(behind[0])
	switch mark {
	case '^':
		return len(ahead) == 0
	case '$':
		return len(behind) == 0
	case '<':
		return wordBehind && !wordAhead
	case '>':
		return wordAhead && !wordBehind
	}
	return false
}

// ends is all b for which the parts match from a to b, rising: part by part, where so many of them can have come to.
func ends(parts []part, line []byte, a int) []int {
	places := []int{a}
	for _, p := range parts {
		var on []int
		for _, at := range places {
			switch p.mark {
			case '1':
				if at < len(line) && p.allows[line[at]] {
					on = append(on, at+1)
				}
			case '*':
				for on = append(on, at); at < len(line) && p.allows[line[at]]; at++ {
					on = append(on, at+1)
				}
			default:
				if holdsAt(p.mark, line, at) {
					on = append(on, at)
				}
			}
		}
		slices.Sort(on)
		places = slices.Compact(on)
	}
	return places
}

// A match is what Find answers.
type match struct {
	a, b int
	ok   bool
}

// firstMatches is what Find tells from each place of the line.
func firstMatches(parts []part, line []byte) []match {
	list := make([]match, len(line)+1)
	next := match{}
	for a := len(line); a >= 0; a-- {
		if e := ends(parts, line, a); len(e) > 0 {
			next = match{a, e[len(e)-1], true}
		}
		list[a] = next
	}
	return list
}

// wordFind is Find by the chapter's words.
func wordFind(first []match, from int) match {
	if from < 0 || from >= len(first) {
		return match{}
	}
	return first[from]
}

// wordAll is All by the chapter's words.
func wordAll(first []match) [][2]int {
	var all [][2]int
	from := 0
	for from < len(first) && first[from].ok {
		m := first[from]
		all = append(all, [2]int{m.a, m.b})
		from = max(m.b, m.a+1)
	}
	return all
}

// wordQuote is Quote by the chapter's words.
func wordQuote(s []byte) []byte {
	s = bytes.Clone(s)
	for _, b := range `\.*[]^$` { // `\` first: those that come later are no more to be quoted
		s = bytes.ReplaceAll(s, []byte{byte(b)}, []byte{'\\', byte(b)})
	}
	return s
}
