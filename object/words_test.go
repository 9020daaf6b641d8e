package object_test

import (
	"strings"

	"quoin/api"
)

func keysOf(sorts string) []string {
	var list []string
	for i := range len(sorts) {
		list = append(list, "i"+sorts[i:i+1], "a"+sorts[i:i+1])
	}
	return list
}

const allSorts = "wWp\"'`()b[]{}B"

func keys() []string { return keysOf(allSorts) }

func isKnown(key string) bool {
	return len(key) == 2 && strings.Contains("ia", key[:1]) && strings.Contains(allSorts, key[1:])
}

// wordSelect is Select by the chapter's words.
func wordSelect(t []byte, at, count int, key string) answer {
	if at < 0 || at > len(t) || count < 1 || count > 9999 || !isKnown(key) {
		return refused(api.ErrArg)
	}
	a := key[0] == 'a'
	switch sort := key[1]; sort {
	case 'w', 'W':
		return wordOfWords(t, at, count, sort == 'W', a)
	case 'p':
		return wordOfLines(t, at, count, a)
	case '"', '\'', '`':
		return wordOfQuotes(t, at, sort, a)
	case '(', ')', 'b':
		return wordOfBrackets(t, at, count, '(', ')', a)
	case '[', ']':
		return wordOfBrackets(t, at, count, '[', ']', a)
	}
	return wordOfBrackets(t, at, count, '{', '}', a)
}

// lineAbout is the bytes of at's line, and how many of them stand ahead of at.
func lineAbout(t []byte, at int) (line string, column int) {
	ahead, behind := string(t[:at]), string(t[at:])
	ahead = ahead[strings.LastIndex(ahead, "\n")+1:]
	behind, _, _ = strings.Cut(behind, "\n")
	return ahead + behind, len(ahead)
}

// A shape has a letter for each byte of a line, or for each line of a text: equal letters side by side are a run, and the blank stands for what is blank or empty.
func shapeOfLine(line string, big bool) string {
	return strings.Map(func(r rune) rune {
		switch {
		case r == ' ' || r == '\t':
			return ' '
		case big || r == '_' || r >= '0' && r <= '9' || r >= 'a' && r <= 'z' || r >= 'A' && r <= 'Z' || r >= 128:
			return 'x'
		}
		return '.'
	}, onePerByte(line))
}

// onePerByte makes each byte a rune of its own, so that those from 128 on are told apart one by one.
func onePerByte(line string) string {
	var b strings.Builder
	for i := range len(line) {
		b.WriteRune(rune(line[i]))
	}
	return b.String()
}

func shapeOfLines(list []string) string {
	var b strings.Builder
	for _, line := range list {
		if line == "" {
			b.WriteByte(' ')
		} else {
			b.WriteByte('x')
		}
	}
	return b.String()
}

// firstRun is the run at a shape's beginning.
func firstRun(shape string) string {
	n := 0
	for n < len(shape) && shape[n] == shape[0] {
		n++
	}
	return shape[:n]
}

// runsFrom is what is chosen of a shape: its letters from from to to - 1.
func runsFrom(shape string, at, count int, a bool) (from, to int, ok bool) {
	if at == len(shape) {
		return 0, 0, false
	}
	from = at
	for from > 0 && shape[from-1] == shape[at] {
		from--
	}
	if a {
		return thingsFrom(shape, from, count)
	}
	to = from
	for range count {
		if to == len(shape) {
			return 0, 0, false
		}
		to += len(firstRun(shape[to:]))
	}
	return from, to, true
}

func thingsFrom(shape string, first, count int) (from, to int, ok bool) {
	rest := shape[first:]
	for range count {
		if rest == "" {
			return 0, 0, false
		}
		if rest[0] == ' ' {
			rest = strings.TrimLeft(rest, " ")
			if rest == "" {
				return 0, 0, false
			}
			rest = rest[len(firstRun(rest)):]
			continue
		}
		rest = rest[len(firstRun(rest)):]
		if shape[first] != ' ' {
			rest = strings.TrimLeft(rest, " ")
		}
	}
	to = len(shape) - len(rest)
	if shape[first] != ' ' && shape[to-1] != ' ' {
		first = len(strings.TrimRight(shape[:first], " "))
	}
	return first, to, true
}

func wordOfWords(t []byte, at, count int, big, a bool) answer {
	line, column := lineAbout(t, at)
	from, to, ok := runsFrom(shapeOfLine(line, big), column, count, a)
	if !ok {
		return refused(api.ErrObject)
	}
	return exclusive(at-column+from, at-column+to)
}

func wordOfLines(t []byte, at, count int, a bool) answer {
	list := strings.Split(string(t), "\n")
	from, to, ok := runsFrom(shapeOfLines(list), strings.Count(string(t[:at]), "\n"), count, a)
	if !ok {
		return refused(api.ErrObject)
	}
	return linewise(startOf(list, from), startOf(list, to-1))
}

func startOf(list []string, number int) int {
	start := 0
	for _, line := range list[:number] {
		start += len(line) + 1
	}
	return start
}

// quotesOf is the columns of a line's quotes.
func quotesOf(line string, mark byte) []int {
	var list []int
	for i := range len(line) {
		if line[i] != mark {
			continue
		}
		ahead := line[:i]
		if slashes := len(ahead) - len(strings.TrimRight(ahead, `\`)); slashes%2 == 0 {
			list = append(list, i)
		}
	}
	return list
}

func wordOfQuotes(t []byte, at int, mark byte, a bool) answer {
	line, column := lineAbout(t, at)
	start := at - column
	quotes := quotesOf(line, mark)
	for ; len(quotes) >= 2; quotes = quotes[2:] {
		first, second := quotes[0], quotes[1]
		if second < column {
			continue
		}
		if !a {
			return exclusive(start+first+1, start+second)
		}
		behind := line[second+1:]
		if blanks := len(behind) - len(strings.TrimLeft(behind, " \t")); blanks > 0 {
			return exclusive(start+first, start+second+1+blanks)
		}
		return exclusive(start+len(strings.TrimRight(line[:first], " \t")), start+second+1)
	}
	return refused(api.ErrObject)
}

// wordOfBrackets looks for the partner of each opening one from at down: the place up to which as many are closed as are opened.
func wordOfBrackets(t []byte, at, count int, opening, closing byte, a bool) answer {
	for o := min(at, len(t)-1); o >= 0; o-- {
		if t[o] != opening {
			continue
		}
		c, ok := closingOf(t, o, opening, closing)
		if !ok || c < at {
			continue
		}
		if count--; count > 0 {
			continue
		}
		if a {
			return exclusive(o, c+1)
		}
		return exclusive(o+1, c)
	}
	return refused(api.ErrObject)
}

func closingOf(t []byte, from int, opening, closing byte) (int, bool) {
	deep := 0
	for at := from; at < len(t); at++ {
		switch t[at] {
		case opening:
			deep++
		case closing:
			deep--
		}
		if deep == 0 {
			return at, true
		}
	}
	return 0, false
}
