package block_test

import (
	"slices"
	"strings"

	"quoin/api"
)

func keys() []string { return []string{"{", "}", "(", ")", "%"} }

// A line is where it starts and what stands in it, found by cutting the text at its line ends.
type line struct {
	start int
	bytes string
}

func linesOf(t []byte) []line {
	var list []line
	start := 0
	for _, l := range strings.Split(string(t), "\n") {
		list = append(list, line{start, l})
		start += len(l) + 1
	}
	return list
}

// paragraphs is the starts of the empty lines beside which, so many lines further on, there is one that isn't empty.
func paragraphs(list []line, beside int) []int {
	var stops []int
	for i, l := range list {
		k := i + beside
		if l.bytes == "" && k >= 0 && k < len(list) && list[k].bytes != "" {
			stops = append(stops, l.start)
		}
	}
	return stops
}

func isWhite(b byte) bool { return b == 32 || b == 9 || b == 10 }

// endings is the places right behind the ends of sentences.
func endings(t []byte) []int {
	var list []int
	for mark, b := range t {
		if b != '.' && b != '!' && b != '?' {
			continue
		}
		behind := mark + 1
		for behind < len(t) && (t[behind] == ')' || t[behind] == ']' || t[behind] == '"' || t[behind] == '\'') {
			behind++
		}
		if behind == len(t) || isWhite(t[behind]) {
			list = append(list, behind)
		}
	}
	return list
}

// openings is the places right behind two line ends with nothing between, or behind an empty first line.
func openings(t []byte) []int {
	var list []int
	for i := range t {
		if t[i] == 10 && (i == 0 || t[i-1] == 10) {
			list = append(list, i+1)
		}
	}
	return list
}

// nextBytes is of each place the first one from there on that is a byte neither blank nor a line end; with none the text's length.
func nextBytes(t []byte) []int {
	next := make([]int, len(t)+1)
	next[len(t)] = len(t)
	for p := len(t) - 1; p >= 0; p-- {
		next[p] = p
		if isWhite(t[p]) {
			next[p] = next[p+1]
		}
	}
	return next
}

// sentences is the sentence stops: the empty lines, and then the bytes next behind what ends a sentence or the text's beginning.
func sentences(t []byte, list []line) []int {
	var stops []int
	for i, l := range list {
		if l.bytes == "" && (i == 0 || list[i-1].bytes != "") {
			stops = append(stops, l.start)
		}
	}
	next := nextBytes(t)
	for _, from := range append(append(endings(t), openings(t)...), 0) {
		if next[from] < len(t) {
			stops = append(stops, next[from])
		}
	}
	slices.Sort(stops)
	return slices.Compact(stops)
}

// A page is a text with all that is found out once about it.
type page struct {
	text               []byte
	down, up, sentence []int
}

func pageOf(t []byte) page {
	list := linesOf(t)
	return page{t, paragraphs(list, -1), paragraphs(list, 1), sentences(t, list)}
}

// above is the first of a rising list above a place, or other.
func above(list []int, at, other int) int {
	if i, _ := slices.BinarySearch(list, at+1); i < len(list) {
		return list[i]
	}
	return other
}

// below is the last of a rising list below a place, or other.
func below(list []int, at, other int) int {
	if i, _ := slices.BinarySearch(list, at); i > 0 {
		return list[i-1]
	}
	return other
}

// wordMove is Move by the chapter's words.
func wordMove(p page, at, count int, key string) answer {
	if at < 0 || at > len(p.text) || count < 1 || count > 9999 || !slices.Contains(keys(), key) {
		return refused(api.ErrArg)
	}
	if key == "%" {
		return wordAcross(p.text, at)
	}
	to := at
	for range count {
		if (key == "}" || key == ")") && to == len(p.text) || (key == "{" || key == "(") && to == 0 {
			return refused(api.ErrMove)
		}
		switch key {
		case "}":
			to = above(p.down, to, len(p.text))
		case ")":
			to = above(p.sentence, to, len(p.text))
		case "{":
			to = below(p.up, to, 0)
		case "(":
			to = below(p.sentence, to, 0)
		}
	}
	return exclusive(at, to)
}

// wordAcross takes for the partner the nearest bracket up to which the brackets come to nothing, when pairs that stand side by side are taken out again and again.
func wordAcross(t []byte, at int) answer {
	from := at
	for from < len(t) && t[from] != 10 && bracket(t[from]) == "" {
		from++
	}
	if from == len(t) || t[from] == 10 {
		return refused(api.ErrMove)
	}
	left := ""
	if strings.Contains("([{", bracket(t[from])) {
		for to := from; to < len(t); to++ {
			if left = withoutPairs(left + bracket(t[to])); left == "" {
				return inclusive(at, to)
			}
		}
		return refused(api.ErrMove)
	}
	for to := from; to >= 0; to-- {
		if left = withoutPairs(bracket(t[to]) + left); left == "" {
			return inclusive(at, to)
		}
	}
	return refused(api.ErrMove)
}

// bracket is a byte as a text, or none, if it is no bracket.
func bracket(b byte) string {
	if i := strings.IndexByte("()[]{}", b); i >= 0 {
		return "()[]{}"[i : i+1]
	}
	return ""
}

func withoutPairs(brackets string) string {
	for {
		less := brackets
		for _, pair := range []string{"()", "[]", "{}"} {
			less = strings.ReplaceAll(less, pair, "")
		}
		if less == brackets {
			return less
		}
		brackets = less
	}
}
