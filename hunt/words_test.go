package hunt_test

import (
	"slices"
	"strings"

	"quoin/api"
	"quoin/pattern"
)

// A line with more bytes than this is long.
const long = 1000

// matchesOf is the places of a line at which a pattern matches, asked one by one; in a long line those are passed over that pattern's third promise leaves without a match.
func matchesOf(p *pattern.Pattern, line string) []int {
	var list []int
	row := []byte(line)
	for place := 0; place <= len(line); place++ {
		a, _, ok := p.Find(row, place)
		switch {
		case ok && a == place:
			list = append(list, place)
		case ok && len(line) > long:
			place = a - 1
		case len(line) > long:
			return list
		}
	}
	return list
}

// wordHits is all hits by the chapter's words, rising.
func wordHits(t []byte, p *pattern.Pattern) []int {
	var hits []int
	start := 0
	for _, line := range strings.Split(string(t), "\n") {
		for _, place := range matchesOf(p, line) {
			if place > 0 && place == len(line) {
				place--
			}
			hits = append(hits, start+place)
		}
		start += len(line) + 1
	}
	return slices.Compact(hits)
}

// nearest is the one hit that is next to a place, the one way or the other.
func nearest(hits []int, at int, back bool) int {
	i, on := slices.BinarySearch(hits, at)
	switch {
	case back:
		i--
	case on:
		i++
	}
	return hits[(i+len(hits))%len(hits)]
}

// A walk is a text, what was found in it, and where one comes from a place by each count up to one that is the greatest of those asked.
type walk struct {
	at     int
	size   int
	places []int // empty, if there is no hit
}

func walkOf(size int, hits []int, at, most int, back bool) walk {
	w := walk{at: at, size: size}
	if len(hits) == 0 {
		return w
	}
	w.places = []int{at}
	for range most {
		at = nearest(hits, at, back)
		w.places = append(w.places, at)
	}
	return w
}

// next is Next by the chapter's words.
func (w walk) next(count int) answer {
	switch {
	case w.at < 0 || w.at > w.size || count < 0 || count > 9999:
		return refused(api.ErrArg)
	case len(w.places) == 0:
		return refused(api.ErrHunt)
	case count == 0:
		count = 1
	}
	return exclusive(w.at, w.places[count])
}

func isWordByte(b byte) bool {
	return b >= 128 || b == '_' || b >= '0' && b <= '9' || b >= 'a' && b <= 'z' || b >= 'A' && b <= 'Z'
}

// wordRuns is where the words of a line begin and end.
func wordRuns(line string) [][2]int {
	var runs [][2]int
	for i := range len(line) {
		switch {
		case !isWordByte(line[i]):
		case i > 0 && isWordByte(line[i-1]):
			runs[len(runs)-1][1]++
		default:
			runs = append(runs, [2]int{i, i + 1})
		}
	}
	return runs
}

// wordUnder is Under by the chapter's words.
func wordUnder(t []byte, at int) (string, api.Errno) {
	if at < 0 || at > len(t) {
		return "", api.ErrArg
	}
	start := strings.LastIndex(string(t[:at]), "\n") + 1
	line, _, _ := strings.Cut(string(t[start:]), "\n")
	for _, run := range wordRuns(line) {
		// The first word that isn't over at at is the one there or the next one.
		if run[1] <= at-start {
			continue
		}
		// No byte of a word means anything to a pattern.
		told := `\<` + line[run[0]:run[1]] + `\>`
		if len(told) > 256 {
			return "", api.ErrLong
		}
		return told, api.OK
	}
	return "", api.ErrHunt
}

// wholeWords is where a word stands in a line as a whole word.
func wholeWords(line, word string) []int {
	var list []int
	for _, run := range wordRuns(line) {
		if line[run[0]:run[1]] == word {
			list = append(list, run[0])
		}
	}
	return list
}
