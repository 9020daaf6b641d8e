package extent_test

import (
	"strings"

	"quoin/api"
)

// The chapter's words over a text as a string, cut into lines; the program's own functions are not asked.

func isPlace(t string, at int) bool { return 0 <= at && at <= len(t) }

func lineOf(t string, at int) int { return strings.Count(t[:at], "\n") }

// bounds is where the line of this number starts and ends.
func bounds(t string, line int) (start, end int) {
	list := strings.Split(t, "\n")
	for _, ahead := range list[:line] {
		start += len(ahead) + 1
	}
	return start, start + len(list[line])
}

func wordWhole(t string, from, to int) stretch {
	count := strings.Count(t, "\n") + 1
	if from < 0 || from >= count || to < 0 || to >= count || from > to {
		return refusedStretch()
	}
	if to+1 < count {
		start, _ := bounds(t, from)
		next, _ := bounds(t, to+1)
		return wholeLines(start, next)
	}
	if from >= 1 {
		_, end := bounds(t, from-1)
		return leadLines(end, len(t))
	}
	return wholeLines(0, len(t))
}

func wordOf(t string, g api.Target, op string) stretch {
	if !isPlace(t, g.From) || !isPlace(t, g.To) || g.Kind < 1 || g.Kind > 3 || !isKnown(op) {
		return refusedStretch()
	}
	a, b := g.From, g.To
	if b < a {
		a, b = b, a
	}
	if g.Kind == 3 || op == ">" || op == "<" {
		return wordWhole(t, lineOf(t, a), lineOf(t, b))
	}
	if g.Kind == 2 {
		if b == len(t) || t[b] == 10 {
			return plain(a, b)
		}
		return plain(a, b+1)
	}
	line, last := lineOf(t, a), lineOf(t, b)
	if start, _ := bounds(t, last); start != b || last == line {
		return plain(a, b)
	}
	_, e := bounds(t, last-1)
	start, _ := bounds(t, line)
	if strings.Trim(t[start:a], " \t") == "" {
		return wordWhole(t, line, lineOf(t, e))
	}
	return plain(a, e)
}

func isKnown(op string) bool {
	for _, known := range operators() {
		if op == known {
			return true
		}
	}
	return false
}

func operators() []string { return strings.Fields("d c y > < g~ gu gU") }

func wordTake(t string, r api.Range) taken {
	if r.From < 0 || r.To < r.From || len(t) < r.To {
		return refusedTaken()
	}
	part := t[r.From:r.To]
	switch {
	case !r.Lines:
		return plainTaken(part)
	case !r.Lead && strings.HasSuffix(part, "\n"):
		return linesTaken(part)
	case !r.Lead:
		return linesTaken(part + "\n")
	case !strings.HasPrefix(t[r.From:], "\n"):
		return refusedTaken()
	}
	return linesTaken(strings.TrimPrefix(part, "\n") + "\n")
}
