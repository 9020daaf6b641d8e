package splice_test

import (
	"math"
	"slices"
	"strconv"
	"strings"
	"testing"

	"quoin/api"
	"quoin/splice"
)

const maxEnd = 1<<31 - 1

// A place is one byte of a list: the chapter's (Src, Off + k).
type place struct {
	src, at int
}

func o(off, length int) api.Span { return api.Span{Src: api.Original, Off: off, Len: length} }
func a(off, length int) api.Span { return api.Span{Src: api.Added, Off: off, Len: length} }

func spans(list ...api.Span) []api.Span { return list }

// spelt goes byte by byte, so it is for short lists alone.
func spelt(lists ...[]api.Span) []place {
	var all []place
	for _, list := range lists {
		for _, s := range list {
			for k := 0; k < s.Len; k++ {
				all = append(all, place{s.Src, s.Off + k})
			}
		}
	}
	return all
}

// packedOf makes the one packed list that spells these bytes: a new span wherever a byte is not next to the one ahead of it.
func packedOf(bytes []place) []api.Span {
	var list []api.Span
	for i, p := range bytes {
		if i > 0 && bytes[i-1] == (place{p.src, p.at - 1}) {
			list[len(list)-1].Len++
			continue
		}
		list = append(list, api.Span{Src: p.src, Off: p.at, Len: 1})
	}
	return list
}

func isPacked(list []api.Span) bool {
	for i, s := range list {
		if s.Len == 0 {
			return false
		}
		if i > 0 && list[i-1].Src == s.Src && list[i-1].Off+list[i-1].Len == s.Off {
			return false
		}
	}
	return true
}

// wrongSpans are not right, each by one fault or at an end of its type; some of them would be right if Off + Len wrapped round.
func wrongSpans() []api.Span {
	return []api.Span{
		{Src: 2, Len: 1}, {Src: -1, Len: 1}, {Src: math.MinInt}, {Src: math.MaxInt}, {Src: 2},
		o(-1, 1), a(-1, 2), o(math.MinInt, 0), o(0, -1), a(5, -1), a(1, -1), o(0, math.MinInt),
		o(1, maxEnd), a(maxEnd, 1), o(maxEnd+1, 0), a(0, maxEnd+1), o(1<<30, 1<<30), o(2, maxEnd-1),
		o(math.MaxInt, 0), o(0, math.MaxInt), a(math.MaxInt, math.MaxInt), o(math.MaxInt, 1), a(1, math.MaxInt),
		o(math.MinInt, math.MaxInt), o(math.MaxInt, math.MinInt), a(math.MinInt, math.MinInt), o(-maxEnd, maxEnd),
	}
}

func rightAtEdges() []api.Span {
	return []api.Span{
		o(0, 0), a(0, 0), o(maxEnd, 0), a(maxEnd, 0), o(0, maxEnd), a(0, maxEnd),
		o(1, maxEnd-1), a(maxEnd-1, 1), o(1<<30, 1<<30-1), o(maxEnd-2, 1),
	}
}

func smallSpans() []api.Span {
	var all []api.Span
	for src := range 2 {
		for off := range 3 {
			for length := range 3 {
				all = append(all, api.Span{Src: src, Off: off, Len: length})
			}
		}
	}
	return all
}

// smallLists: every list of at most `most` spans of smallSpans.
func smallLists(most int) [][]api.Span {
	lists := [][]api.Span{nil}
	from := 0
	for range most {
		end := len(lists)
		for _, list := range lists[from:end] {
			for _, s := range smallSpans() {
				lists = append(lists, append(slices.Clone(list), s))
			}
		}
		from = end
	}
	return lists
}

// pickedLists are longer ones, picked by a plain rule: every source, offset and length comes, many of them following each other.
func pickedLists() [][]api.Span {
	var lists [][]api.Span
	seed := uint32(1)
	next := func(n int) int {
		seed = seed*1664525 + 1013904223
		return int(seed>>16) % n
	}
	for range 300 {
		var list []api.Span
		for range next(12) {
			s := api.Span{Src: next(2), Off: next(6), Len: next(4)}
			if len(list) > 0 && next(2) == 0 {
				last := list[len(list)-1]
				s.Src, s.Off = last.Src, last.Off+last.Len
			}
			list = append(list, s)
		}
		lists = append(lists, list)
	}
	return lists
}

// read turns the chapter's own writing into a list: "o0+2 a5+1".
func read(t *testing.T, text string) []api.Span {
	t.Helper()
	var list []api.Span
	for _, word := range strings.Fields(text) {
		src := api.Original
		if word[0] == 'a' {
			src = api.Added
		}
		off, length, ok := strings.Cut(word[1:], "+")
		x, e := strconv.Atoi(off)
		y, f := strconv.Atoi(length)
		if !ok || e != nil || f != nil {
			t.Fatalf("%q is no span", word)
		}
		list = append(list, api.Span{Src: src, Off: x, Len: y})
	}
	return list
}

func equal(t *testing.T, what string, got []api.Span, e api.Errno, want []api.Span) {
	t.Helper()
	if e != api.OK || !slices.Equal(got, want) {
		t.Fatalf("%s = %v, %d; want %v", what, got, e, want)
	}
	if !isPacked(got) {
		t.Fatalf("%s = %v: not packed", what, got)
	}
}

func refused(t *testing.T, what string, got []api.Span, e, want api.Errno) {
	t.Helper()
	if e != want || len(got) != 0 {
		t.Fatalf("%s = %v, %d; want nothing, %d", what, got, e, want)
	}
}

func refusedCut(t *testing.T, list []api.Span, n int, want api.Errno) {
	t.Helper()
	first, rest, e := splice.Cut(list, n)
	refused(t, "Cut, first", first, e, want)
	refused(t, "Cut, rest", rest, e, want)
}

func TestSizeByHand(t *testing.T) {
	for _, c := range []struct {
		list string
		want int
	}{
		{"", 0},
		{"o0+0", 0},
		{"o0+2 o2+3 a0+0 a5+1", 6},
		{"o0+5 o0+5", 10},
		{"o2147483647+0", 0},
		{"o0+2147483647", maxEnd},
		{"o0+2147483647 a0+2147483647 o1+2147483646", 3*maxEnd - 1},
	} {
		if n := splice.Size(read(t, c.list)); n != c.want {
			t.Errorf("Size(%s) = %d, want %d", c.list, n, c.want)
		}
	}
}

func TestPackByHand(t *testing.T) {
	for _, c := range []struct{ list, want string }{
		{"", ""},
		{"o0+0 a3+0", ""},
		{"o0+2 o2+3 a0+0 a5+1", "o0+5 a5+1"},
		{"o0+2 o3+1", "o0+2 o3+1"},
		{"o0+2 a2+1", "o0+2 a2+1"},
		{"a0+2 o2+1", "a0+2 o2+1"},
		{"o0+2 o1+2", "o0+2 o1+2"},
		{"o2+2 o0+2", "o2+2 o0+2"},
		{"o0+2 o0+2", "o0+2 o0+2"},
		{"o0+1 o1+1 o2+1 o3+1", "o0+4"},
		// A span without bytes between two that follow each other does not hold them apart, whatever its own place.
		{"o0+2 a9+0 o2+1", "o0+3"},
		{"o0+2 o7+0 o2+1", "o0+3"},
		{"o0+2 o2+0 o3+1", "o0+2 o3+1"},
		{"a4+0 o0+1 a4+0", "o0+1"},
		{"o0+2147483646 o2147483646+1", "o0+2147483647"},
		{"o0+2147483647 o2147483647+0 a0+1", "o0+2147483647 a0+1"},
		{"o0+2147483647 o0+2147483647", "o0+2147483647 o0+2147483647"},
	} {
		equal(t, "Pack of "+c.list, splice.Pack(read(t, c.list)), api.OK, read(t, c.want))
	}
}

func TestCutByHand(t *testing.T) {
	for _, c := range []struct {
		list        string
		n           int
		first, rest string
	}{
		{"", 0, "", ""},
		{"o3+0", 0, "", ""},
		{"o0+5", 2, "o0+2", "o2+3"},
		{"o0+5", 0, "", "o0+5"},
		{"o0+5", 5, "o0+5", ""},
		{"o0+2 a0+1 o2+3", 2, "o0+2", "a0+1 o2+3"},
		{"o0+2 a0+1 o2+3", 3, "o0+2 a0+1", "o2+3"},
		{"o0+2 a0+1 o2+3", 4, "o0+2 a0+1 o2+1", "o3+2"},
		{"o0+1 o1+1 o2+1 o3+1", 2, "o0+2", "o2+2"},
		{"o0+2 a1+0 a5+2", 2, "o0+2", "a5+2"},
		{"o0+2147483647", 2147483646, "o0+2147483646", "o2147483646+1"},
		{"o0+2147483647 a0+2147483647", 4294967293, "o0+2147483647 a0+2147483646", "a2147483646+1"},
	} {
		first, rest, e := splice.Cut(read(t, c.list), c.n)
		equal(t, "Cut of "+c.list+", first", first, e, read(t, c.first))
		equal(t, "Cut of "+c.list+", rest", rest, e, read(t, c.rest))
	}
}

func TestInsertByHand(t *testing.T) {
	for _, c := range []struct {
		list string
		at   int
		s    api.Span
		want string
	}{
		{"o0+5", 2, a(0, 1), "o0+2 a0+1 o2+3"},
		{"o0+5", 5, o(5, 1), "o0+6"},
		{"", 0, a(7, 2), "a7+2"},
		{"", 0, a(7, 0), ""},
		{"o1+5", 0, o(0, 1), "o0+6"},
		{"o0+2 o3+2", 2, o(2, 1), "o0+5"},
		{"o0+2 o2+2", 2, o(9, 0), "o0+4"},
		{"o0+5", 2, o(2, 3), "o0+5 o2+3"},
		{"o0+5", 2, o(0, 2), "o0+2 o0+5"},
		{"a0+2 a2+2", 1, o(0, 1), "a0+1 o0+1 a1+3"},
		{"o0+1", 1, a(0, maxEnd), "o0+1 a0+2147483647"},
		{"o0+2147483647 a0+2147483647", 4294967294, o(maxEnd, 0), "o0+2147483647 a0+2147483647"},
	} {
		got, e := splice.Insert(read(t, c.list), c.at, c.s)
		equal(t, "Insert in "+c.list, got, e, read(t, c.want))
	}
}

func TestDeleteAndSliceByHand(t *testing.T) {
	for _, c := range []struct {
		list        string
		from, to    int
		left, taken string
	}{
		{"", 0, 0, "", ""},
		{"o0+2 a0+1 o2+3", 2, 3, "o0+5", "a0+1"},
		{"o0+2 a0+1 o2+3", 1, 4, "o0+1 o3+2", "o1+1 a0+1 o2+1"},
		{"o0+2 a0+1 o2+3", 0, 6, "", "o0+2 a0+1 o2+3"},
		{"o0+2 a0+1 o2+3", 3, 3, "o0+2 a0+1 o2+3", ""},
		{"o0+2 a0+1 o2+3", 6, 6, "o0+2 a0+1 o2+3", ""},
		{"o0+5", 1, 3, "o0+1 o3+2", "o1+2"},
		{"o0+2 o2+2 a0+1 o4+1", 4, 5, "o0+5", "a0+1"},
		{"o0+1 o1+1 o2+1", 0, 2, "o2+1", "o0+2"},
		{"o0+2 a3+0 o2+2", 2, 2, "o0+4", ""},
		{"o0+2147483647 o0+2147483647", 1, 2147483647, "o0+1 o0+2147483647", "o1+2147483646"},
		{"o0+2147483647 a0+2147483647", 2147483646, 2147483648, "o0+2147483646 a1+2147483646", "o2147483646+1 a0+1"},
	} {
		left, e := splice.Delete(read(t, c.list), c.from, c.to)
		equal(t, "Delete in "+c.list, left, e, read(t, c.left))
		taken, e := splice.Slice(read(t, c.list), c.from, c.to)
		equal(t, "Slice of "+c.list, taken, e, read(t, c.taken))
	}
}

// compare holds Size, Pack, Cut, Delete and Slice of one list against its bytes, at every place and one past both ends.
func compare(t *testing.T, list []api.Span) {
	t.Helper()
	bytes := spelt(list)
	size := len(bytes)
	if n := splice.Size(list); n != size {
		t.Fatalf("Size(%v) = %d, want %d", list, n, size)
	}
	packed := splice.Pack(list)
	equal(t, "Pack", packed, api.OK, packedOf(bytes))
	equal(t, "Pack of the packed list", splice.Pack(packed), api.OK, packed)
	for n := -1; n <= size+1; n++ {
		if n < 0 || n > size {
			refusedCut(t, list, n, api.ErrRange)
			continue
		}
		first, rest, e := splice.Cut(list, n)
		equal(t, "Cut, first", first, e, packedOf(bytes[:n]))
		equal(t, "Cut, rest", rest, e, packedOf(bytes[n:]))
	}
	for from := -1; from <= size+1; from++ {
		for to := -1; to <= size+1; to++ {
			compareRange(t, list, bytes, from, to)
		}
	}
}

func compareRange(t *testing.T, list []api.Span, bytes []place, from, to int) {
	t.Helper()
	left, e := splice.Delete(list, from, to)
	taken, f := splice.Slice(list, from, to)
	if from < 0 || to < from || to > len(bytes) {
		refused(t, "Delete", left, e, api.ErrRange)
		refused(t, "Slice", taken, f, api.ErrRange)
		return
	}
	equal(t, "Delete", left, e, packedOf(slices.Concat(bytes[:from], bytes[to:])))
	equal(t, "Slice", taken, f, packedOf(bytes[from:to]))
}

// compareInsert also takes out again what was put in.
func compareInsert(t *testing.T, list []api.Span, s api.Span) {
	t.Helper()
	bytes := spelt(list)
	for at := -1; at <= len(bytes)+1; at++ {
		got, e := splice.Insert(list, at, s)
		if at < 0 || at > len(bytes) {
			refused(t, "Insert", got, e, api.ErrRange)
			continue
		}
		equal(t, "Insert", got, e, packedOf(slices.Concat(bytes[:at], spelt(spans(s)), bytes[at:])))
		back, e := splice.Delete(got, at, at+s.Len)
		equal(t, "Delete of what was put in", back, e, packedOf(bytes))
	}
}

func TestEverySmallList(t *testing.T) {
	for _, list := range smallLists(3) {
		compare(t, list)
	}
	for _, list := range smallLists(2) {
		for _, s := range smallSpans() {
			compareInsert(t, list, s)
		}
	}
}

func TestLongerLists(t *testing.T) {
	for _, list := range pickedLists() {
		compare(t, list)
		for _, s := range smallSpans() {
			compareInsert(t, list, s)
		}
		if len(list) > 0 {
			last := list[len(list)-1]
			compareInsert(t, list, api.Span{Src: last.Src, Off: last.Off + last.Len, Len: 2})
		}
	}
}

// wrong holds every call to the fault of one span in a list that also asks for no such bytes: ErrSpan comes first.
func wrong(t *testing.T, list []api.Span) {
	t.Helper()
	if n := splice.Size(list); n != 0 {
		t.Fatalf("Size(%v) = %d", list, n)
	}
	if got := splice.Pack(list); len(got) != 0 {
		t.Fatalf("Pack(%v) = %v", list, got)
	}
	for _, n := range []int{0, 1, -1, 9, math.MinInt, math.MaxInt} {
		refusedCut(t, list, n, api.ErrSpan)
		got, e := splice.Insert(list, n, a(0, 1))
		refused(t, "Insert", got, e, api.ErrSpan)
		for _, m := range []int{0, 1, -1, 9, math.MinInt, math.MaxInt} {
			got, e = splice.Delete(list, n, m)
			refused(t, "Delete", got, e, api.ErrSpan)
			got, e = splice.Slice(list, n, m)
			refused(t, "Slice", got, e, api.ErrSpan)
		}
	}
}

func TestWrongSpans(t *testing.T) {
	for _, s := range wrongSpans() {
		wrong(t, spans(s))
		wrong(t, spans(s, o(0, 2)))
		wrong(t, spans(o(0, 2), a(0, 1), s))
		for _, at := range []int{0, 1, 2, 3, -1, math.MinInt, math.MaxInt} {
			got, e := splice.Insert(spans(o(0, 2)), at, s)
			refused(t, "Insert of a wrong one", got, e, api.ErrSpan)
		}
	}
	wrong(t, wrongSpans())
}

func TestRightAtEdges(t *testing.T) {
	for _, s := range rightAtEdges() {
		if n := splice.Size(spans(s, s)); n != 2*s.Len {
			t.Errorf("Size of %v twice = %d", s, n)
		}
		var want []api.Span
		if s.Len > 0 {
			want = spans(s)
		}
		equal(t, "Pack", splice.Pack(spans(s)), api.OK, want)
		got, e := splice.Insert(nil, 0, s)
		equal(t, "Insert", got, e, want)
		got, e = splice.Slice(spans(s), 0, s.Len)
		equal(t, "Slice", got, e, want)
		got, e = splice.Delete(spans(s), 0, s.Len)
		equal(t, "Delete", got, e, nil)
	}
}

func TestNumbersAtTheEnds(t *testing.T) {
	for _, list := range [][]api.Span{nil, {}, spans(o(0, 5)), spans(o(0, maxEnd), a(0, maxEnd))} {
		size := splice.Size(list)
		for _, n := range []int{math.MinInt, math.MinInt + 1, -1, size + 1, math.MaxInt - 1, math.MaxInt} {
			refusedCut(t, list, n, api.ErrRange)
			got, e := splice.Insert(list, n, a(0, 1))
			refused(t, "Insert", got, e, api.ErrRange)
			for _, m := range []int{math.MinInt, -1, 0, size, size + 1, math.MaxInt} {
				got, e = splice.Delete(list, n, m)
				refused(t, "Delete", got, e, api.ErrRange)
				got, e = splice.Delete(list, m, n)
				refused(t, "Delete", got, e, api.ErrRange)
				got, e = splice.Slice(list, n, m)
				refused(t, "Slice", got, e, api.ErrRange)
				got, e = splice.Slice(list, m, n)
				refused(t, "Slice", got, e, api.ErrRange)
			}
		}
	}
}

func TestNilAndEmpty(t *testing.T) {
	for _, list := range [][]api.Span{nil, {}} {
		if n := splice.Size(list); n != 0 {
			t.Errorf("Size = %d", n)
		}
		compare(t, list)
		compareInsert(t, list, a(7, 2))
	}
}

// answers are all the lists that the calls make of one list of size bytes, those of Cut apart.
func answers(list []api.Span, size int) [][]api.Span {
	first, rest, _ := splice.Cut(list, size/2)
	in, _ := splice.Insert(list, size, a(50, 1))
	early, _ := splice.Insert(list, 0, a(50, 1))
	left, _ := splice.Delete(list, size, size)
	less, _ := splice.Delete(list, 0, 1)
	all, _ := splice.Slice(list, 0, size)
	some, _ := splice.Slice(list, 1, size)
	return [][]api.Span{splice.Pack(list), first, rest, in, early, left, less, all, some}
}

// spoil overwrites a list and its spare room.
func spoil(list []api.Span) {
	whole := list[:cap(list)]
	for i := range whole {
		whole[i] = o(77, 7)
	}
}

func TestMemory(t *testing.T) {
	for _, list := range [][]api.Span{
		spans(o(0, 2), a(0, 1), o(2, 3)),
		spans(o(0, 2), o(2, 2), o(4, 2)),
		spans(a(0, 6)),
		spans(a(9, 0), o(0, 3), o(3, 0), a(0, 3)),
	} {
		room := append(slices.Clone(list), a(30, 3), o(31, 3), a(32, 3))
		before := slices.Clone(room)
		got := answers(room[:len(list)], 6)
		if !slices.Equal(room, before) {
			t.Fatalf("what was handed in is changed: %v", room)
		}
		for i := range got {
			fresh := answers(list, 6)
			spoil(fresh[i])
			for j := range fresh {
				if j != i && !slices.Equal(fresh[j], got[j]) {
					t.Errorf("answers %d and %d share memory", i, j)
				}
			}
			if !slices.Equal(list, before[:len(list)]) {
				t.Errorf("answer %d shares memory with what was handed in", i)
			}
		}
		spoil(room)
		for j, again := range answers(list, 6) {
			if !slices.Equal(again, got[j]) {
				t.Errorf("answer %d keeps what was handed in", j)
			}
		}
	}
}
