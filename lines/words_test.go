package lines_test

import "quoin/api"

// A row is a line by the document's words, found byte by byte: its number is its place in the list, its bytes are those from start to end.
type row struct {
	start, end int
}

func rowsOf(t []byte) []row {
	list := []row{{}}
	for i, b := range t {
		last := &list[len(list)-1]
		if b == 10 {
			last.end = i
			list = append(list, row{i + 1, i + 1})
		} else {
			last.end = i + 1
		}
	}
	return list
}

func rowOf(t []byte, line int) (row, bool) {
	list := rowsOf(t)
	if line < 0 || line >= len(list) {
		return row{}, false
	}
	return list[line], true
}

func (r row) holds(at int) bool    { return at >= r.start && at <= r.end }
func (r row) hasByte(at int) bool  { return at >= r.start && at < r.end }
func (r row) hasColumn(c int) bool { return c >= 0 && c < r.end-r.start }

func (r row) last() int {
	if r.start == r.end {
		return r.start
	}
	return r.end - 1
}

func wordStart(t []byte, line int) (int, api.Errno) {
	r, ok := rowOf(t, line)
	if !ok {
		return 0, api.ErrArg
	}
	return r.start, api.OK
}

func wordEnd(t []byte, line int) (int, api.Errno) {
	r, ok := rowOf(t, line)
	if !ok {
		return 0, api.ErrArg
	}
	return r.end, api.OK
}

func wordOf(t []byte, at int) (int, api.Errno) {
	for line, r := range rowsOf(t) {
		if r.holds(at) {
			return line, api.OK
		}
	}
	return 0, api.ErrArg
}

func wordColumn(t []byte, at int) (int, api.Errno) {
	for _, r := range rowsOf(t) {
		if r.holds(at) {
			return at - r.start, api.OK
		}
	}
	return 0, api.ErrArg
}

func wordAt(t []byte, line, column int) (int, api.Errno) {
	r, ok := rowOf(t, line)
	switch {
	case !ok || column < -1:
		return 0, api.ErrArg
	case r.hasColumn(column):
		return r.start + column, api.OK
	default:
		return r.last(), api.OK
	}
}

func wordRest(t []byte, at int) int {
	if at < 0 {
		at = 0
	}
	if at > len(t) {
		at = len(t)
	}
	for _, r := range rowsOf(t) {
		if r.hasByte(at) || at == r.start {
			return at
		}
	}
	return at - 1
}

func wordFirst(t []byte, line int) (int, api.Errno) {
	r, ok := rowOf(t, line)
	if !ok {
		return 0, api.ErrArg
	}
	for at := r.start; at < r.end; at++ {
		if t[at] != 32 && t[at] != 9 {
			return at, api.OK
		}
	}
	return r.last(), api.OK
}

func wordSplit(t []byte) [][]byte {
	var list [][]byte
	for _, r := range rowsOf(t) {
		list = append(list, t[r.start:r.end])
	}
	return list
}
