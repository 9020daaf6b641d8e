package pattern

// A thing is one part of a pattern: one of the types below.
type thing any

type (
	one       struct{ allowed set } // a byte
	many      struct{ allowed set } // any number of bytes, none too
	lineStart struct{}
	lineEnd   struct{}
	wordStart struct{}
	wordEnd   struct{}
)

// A set has a bit for each byte that it holds.
type set [4]uint64

func (s set) has(b byte) bool { return s[b/64]>>(b%64)&1 == 1 }

func (s *set) add(low, high byte) {
	// An int goes past 255: a byte would begin again at 0.
	for b := int(low); b <= int(high); b++ {
		s[b/64] |= 1 << (b % 64)
	}
}

func (s set) others() set {
	for i := range s {
		s[i] = ^s[i]
	}
	return s
}

func single(b byte) one {
	var s set
	s.add(b, b)
	return one{allowed: s}
}

// sound is told for the place of a fault where there is none.
const sound = -1

// A reader takes a pattern from its front. Each of its read calls takes one thing and tells the place of the fault in it. As nothing behind a fault has a lower place, the first one that is told counts.
type reader struct {
	text   []byte
	at     int
	things []thing
}

func (r *reader) readThing() int {
	switch b := r.text[r.at]; {
	case b == '^' && r.at == 0:
		r.take(lineStart{}, 1)
	case b == '$' && r.at == len(r.text)-1:
		r.take(lineEnd{}, 1)
	case b == '*':
		return r.readStar()
	case b == '\\':
		return r.readEscape()
	case b == '[':
		return r.readSet()
	case b == '.':
		r.take(one{allowed: set{}.others()}, 1)
	default:
		r.take(single(b), 1)
	}
	return sound
}

func (r *reader) take(t thing, size int) {
	r.things = append(r.things, t)
	r.at += size
}

// readStar: what a star means hangs on what was read ahead of it.
func (r *reader) readStar() int {
	switch last := r.last().(type) {
	case nil, lineStart:
		r.take(single('*'), 1)
	case one:
		r.things = r.things[:len(r.things)-1]
		r.take(many{allowed: last.allowed}, 1)
	default:
		return r.at
	}
	return sound
}

// last is nil, if nothing was read.
func (r *reader) last() thing {
	if len(r.things) == 0 {
		return nil
	}
	return r.things[len(r.things)-1]
}

func (r *reader) readEscape() int {
	if r.at+1 == len(r.text) {
		return r.at
	}
	switch b := r.text[r.at+1]; b {
	case '<':
		r.take(wordStart{}, 2)
	case '>':
		r.take(wordEnd{}, 2)
	default:
		r.take(single(b), 2)
	}
	return sound
}

// readSet tells the fault of a range only when the set has an end: without one the fault is the set's own, whose place is lower.
func (r *reader) readSet() int {
	first := r.at + 1
	others := first < len(r.text) && r.text[first] == '^'
	if others {
		first++
	}
	var s set
	fault := sound
	at := first
	for at < len(r.text) && (at == first || r.text[at] != ']') {
		low, high, size := item(r.text[at:])
		if low > high && fault == sound {
			fault = at
		}
		s.add(low, high)
		at += size
	}
	if at == len(r.text) {
		return r.at
	}
	if others {
		s = s.others()
	}
	r.take(one{allowed: s}, at+1-r.at)
	return fault
}

// item is a set's next item as a range, a byte alone from itself to itself, and how many bytes tell it.
func item(t []byte) (low, high byte, size int) {
	if len(t) > 2 && t[1] == '-' && t[2] != ']' {
		return t[0], t[2], 3
	}
	return t[0], t[0], 1
}
