package grove_test

import (
	"fmt"
	"slices"

	"quoin/api"
)

// The chapter's words over texts as strings and trees that are copied at each step; the program's own functions are not asked, nor those of the layers that it calls.

const errArg, errGrove, errFirst, errLast, errMany api.Errno = 2, 180, 181, 182, 183

// A swap is an edit that can be held against another by ==.
type swap struct {
	at       int
	old, new string
}

func (s swap) String() string { return fmt.Sprintf("(%d, %.40q, %.40q)", s.at, s.old, s.new) }

// spots are marks: a to z, and then Back.
type spots [27]int

// A leaf is a node.
type leaf struct {
	parent, next, cursor int
	edits                []swap
	was, made            spots
}

// String leaves out the marks: they are told by those who look at them.
func (l leaf) String() string {
	return fmt.Sprintf("[parent %d next %d cursor %d edits %v]", l.parent, l.next, l.cursor, l.edits)
}

// A tree is a history.
type tree struct {
	leaves []leaf
	now    int
}

func (t tree) String() string {
	return fmt.Sprintf("now %d of %d: %.600v", t.now, len(t.leaves), t.leaves)
}

func (t tree) copy() tree { return tree{slices.Clone(t.leaves), t.now} }

// same holds trees against each other; lists of edits that are nil and empty are the same.
func (t tree) same(u tree) bool {
	return t.now == u.now && slices.EqualFunc(t.leaves, u.leaves, func(a, b leaf) bool {
		return a.parent == b.parent && a.next == b.next && a.cursor == b.cursor && slices.Equal(a.edits, b.edits) && a.was == b.was && a.made == b.made
	})
}

// A trip is a crossing, or several in one.
type trip struct {
	edits  []swap
	cursor int
	marks  spots
}

func (c trip) String() string {
	return fmt.Sprintf("edits %.300v cursor %d marks %v", c.edits, c.cursor, c.marks)
}

func (c trip) same(d trip) bool {
	return slices.Equal(c.edits, d.edits) && c.cursor == d.cursor && c.marks == d.marks
}

func asSwaps(edits []api.Edit) []swap {
	var list []swap
	for _, e := range edits {
		list = append(list, swap{e.At, string(e.Old), string(e.New)})
	}
	return list
}

func asEdits(list []swap) []api.Edit {
	var edits []api.Edit
	for _, s := range list {
		edits = append(edits, api.Edit{At: s.at, Old: []byte(s.old), New: []byte(s.new)})
	}
	return edits
}

func asSpots(m api.Marks) spots {
	var s spots
	copy(s[:], m.Names[:])
	s[26] = m.Back
	return s
}

func asMarks(s spots) api.Marks {
	var m api.Marks
	copy(m.Names[:], s[:])
	m.Back = s[26]
	return m
}

func asTree(g api.Grove) tree {
	t := tree{now: g.Now}
	for _, n := range g.Nodes {
		t.leaves = append(t.leaves, leaf{n.Parent, n.Next, n.Cursor, asSwaps(n.Edits), asSpots(n.Was), asSpots(n.Made)})
	}
	return t
}

func asGrove(t tree) api.Grove {
	g := api.Grove{Now: t.now}
	for _, l := range t.leaves {
		g.Nodes = append(g.Nodes, api.Node{Parent: l.parent, Next: l.next, Edits: asEdits(l.edits), Cursor: l.cursor, Was: asMarks(l.was), Made: asMarks(l.made)})
	}
	return g
}

func asTrip(c api.Crossing) trip { return trip{asSwaps(c.Edits), c.Cursor, asSpots(c.Marks)} }

// wordMarks: is every mark -1 or more?
func wordMarks(m spots) bool { return slices.Min(m[:]) >= -1 }

// wordNode is what is asked of a change beside its Parent and Next.
func wordNode(l leaf) bool {
	const top = 2147483647
	for _, s := range l.edits {
		if s.at < 0 || s.at > top || s.old == s.new {
			return false
		}
	}
	return len(l.edits) >= 1 && l.cursor >= 0 && l.cursor <= top && wordMarks(l.was) && wordMarks(l.made)
}

// wordRight goes from node 0 onward by Next to find Now.
func wordRight(t tree) bool {
	n := len(t.leaves)
	if n < 1 || n > 4097 || t.now < 0 || t.now >= n {
		return false
	}
	for i, l := range t.leaves {
		first := l.parent == 0 && l.cursor == 0 && len(l.edits) == 0 && l.was == spots{} && l.made == spots{}
		other := l.parent >= 0 && l.parent < i && wordNode(l)
		if i == 0 && !first || i > 0 && !other {
			return false
		}
		if l.next != 0 && (l.next < 0 || l.next >= n || t.leaves[l.next].parent != i) {
			return false
		}
	}
	at := 0
	for at != t.now {
		at = t.leaves[at].next
		if at == 0 {
			return false
		}
	}
	return true
}

// wordAdd: the leaf has the node's edits, cursor and marks.
func wordAdd(t tree, l leaf) (tree, api.Errno) {
	switch {
	case !wordRight(t):
		return tree{}, errGrove
	case !wordNode(l):
		return tree{}, errArg
	case len(t.leaves) == 4097:
		return tree{}, errMany
	}
	u := t.copy()
	fresh := len(t.leaves)
	l.parent, l.next = t.now, 0
	u.leaves = append(u.leaves, l)
	u.leaves[t.now].next = fresh
	u.now = fresh
	return u, 0
}

// wordCross is each mark by itself, as pins' chapter has it.
func wordCross(now, was, made spots, edits []swap) spots {
	var k spots
	for i, x := range now {
		if x == made[i] {
			k[i] = was[i]
			continue
		}
		for _, s := range edits {
			o, n := len(s.old), len(s.new)
			if x < s.at || x < 0 {
				continue
			}
			if x >= s.at+o {
				x = x + n - o
			} else if x-s.at < n {
				x = s.at + (x - s.at)
			} else {
				x = s.at + n
			}
		}
		k[i] = x
	}
	return k
}

func wordBack(edits []swap) []swap {
	if len(edits) == 0 {
		return nil
	}
	s := edits[0]
	return append(wordBack(edits[1:]), swap{s.at, s.new, s.old})
}

func wordUp(t tree, m spots) (tree, trip) {
	u, i := t.copy(), t.now
	edits := wordBack(t.leaves[i].edits)
	k := wordCross(m, t.leaves[i].was, t.leaves[i].made, edits)
	u.leaves[i].was, u.leaves[i].made = m, k
	u.now = t.leaves[i].parent
	return u, trip{edits, t.leaves[i].cursor, k}
}

func wordDown(t tree, i int, m spots) (tree, trip) {
	u := t.copy()
	edits := t.leaves[i].edits
	k := wordCross(m, t.leaves[i].was, t.leaves[i].made, edits)
	u.leaves[i].was, u.leaves[i].made = m, k
	u.leaves[t.leaves[i].parent].next = i
	u.now = i
	least := edits[0].at
	for _, s := range edits {
		if s.at < least {
			least = s.at
		}
	}
	return u, trip{edits, least, k}
}

func wordUndo(t tree, m spots) (tree, trip, api.Errno) {
	switch {
	case !wordRight(t):
		return tree{}, trip{}, errGrove
	case !wordMarks(m):
		return tree{}, trip{}, errArg
	case t.now == 0:
		return tree{}, trip{}, errFirst
	}
	u, c := wordUp(t, m)
	return u, c, 0
}

func wordRedo(t tree, m spots) (tree, trip, api.Errno) {
	switch {
	case !wordRight(t):
		return tree{}, trip{}, errGrove
	case !wordMarks(m):
		return tree{}, trip{}, errArg
	case t.leaves[t.now].next == 0:
		return tree{}, trip{}, errLast
	}
	u, c := wordDown(t, t.leaves[t.now].next, m)
	return u, c, 0
}

// lineage are the nodes from the beginning to i, both of them in it.
func lineage(t tree, i int) []int {
	if i == 0 {
		return []int{0}
	}
	return append(lineage(t, t.leaves[i].parent), i)
}

// wordPath: behind the last node that both lineages have in common, the one is gone backward, the other onward.
func wordPath(t tree, from, to int) (up, down []int, e api.Errno) {
	if !wordRight(t) {
		return nil, nil, errGrove
	}
	n := len(t.leaves)
	if from < 0 || from >= n || to < 0 || to >= n {
		return nil, nil, errArg
	}
	a, b := lineage(t, from), lineage(t, to)
	for len(a) > 0 && len(b) > 0 && a[0] == b[0] {
		a, b = a[1:], b[1:]
	}
	for i := len(a) - 1; i >= 0; i-- {
		up = append(up, a[i])
	}
	return up, b, 0
}

func wordGo(t tree, to int, m spots) (tree, trip, api.Errno) {
	switch {
	case !wordRight(t):
		return tree{}, trip{}, errGrove
	case !wordMarks(m):
		return tree{}, trip{}, errArg
	case to < 0:
		return tree{}, trip{}, errFirst
	case to >= len(t.leaves):
		return tree{}, trip{}, errLast
	}
	all := trip{marks: m}
	up, down, _ := wordPath(t, t.now, to)
	for _, i := range append(slices.Clone(up), down...) {
		var c trip
		if slices.Contains(up, i) {
			t, c = wordUp(t, all.marks)
		} else {
			t, c = wordDown(t, i, all.marks)
		}
		all = trip{append(all.edits, c.edits...), c.cursor, c.marks}
	}
	return t, all, 0
}

// wordText is the text behind the edits; false: they don't fit.
func wordText(text string, edits []swap) (string, bool) {
	for _, s := range edits {
		if s.at < 0 || s.at > len(text) || len(text)-s.at < len(s.old) || text[s.at:s.at+len(s.old)] != s.old {
			return "", false
		}
		text = text[:s.at] + s.new + text[s.at+len(s.old):]
	}
	return text, true
}
