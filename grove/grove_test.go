package grove_test

import (
	"math"
	"slices"
	"strings"
	"testing"

	"quoin/api"
	"quoin/change"
	"quoin/grove"
	"quoin/pins"
)

// A picker is a plain row of numbers, the same in every run.
type picker uint64

func (p *picker) below(n int) int {
	*p = *p*6364136223846793005 + 1442695040888963407
	return int(uint64(*p)>>33) % n
}

func (p *picker) text(most int) string {
	text := make([]byte, p.below(most+1))
	for i := range text {
		text[i] = "aab\n\x00\xff"[p.below(6)]
	}
	return string(text)
}

// any are edits that a change may have, whether or not they fit some text.
func (p *picker) any() []swap {
	var list []swap
	for range 1 + p.below(3) {
		s := swap{p.below(12), p.text(4), p.text(4)}
		if s.old == s.new {
			s.new += "x"
		}
		if p.below(9) == 0 {
			s.at = math.MaxInt32 - p.below(2)
		}
		list = append(list, s)
	}
	return list
}

// fitting are edits that fit the text, each of which does something, and the text behind them.
func (p *picker) fitting(text string) ([]swap, string) {
	var list []swap
	for range 1 + p.below(3) {
		at := p.below(len(text) + 1)
		s := swap{at, text[at : at+p.below(min(len(text)-at, 4)+1)], p.text(4)}
		if s.old == s.new {
			s.new += "y"
		}
		list = append(list, s)
		text = text[:at] + s.new + text[at+len(s.old):]
	}
	return list, text
}

// marks are from -1 to most.
func (p *picker) marks(most int) spots {
	var m spots
	for i := range m {
		m[i] = p.below(most+2) - 1
	}
	return m
}

// great are marks such as a history may hold, up to the greatest int.
func (p *picker) great() spots {
	m := p.marks(12)
	for range p.below(6) {
		m[p.below(27)] = math.MaxInt - p.below(5)
	}
	return m
}

// near are marks of which some are as in m.
func (p *picker) near(m spots) spots {
	k := p.marks(12)
	for i := range k {
		if p.below(2) == 0 {
			k[i] = m[i]
		}
	}
	return k
}

// history is a right one of n nodes, hung, led and marked at will.
func (p *picker) history(n int) tree {
	t := tree{leaves: make([]leaf, n)}
	children := make([][]int, n)
	for i := 1; i < n; i++ {
		l := leaf{parent: p.below(i), cursor: p.below(20), edits: p.any(), was: p.great(), made: p.great()}
		if p.below(3) == 0 {
			l.parent = i - 1
		}
		if p.below(9) == 0 {
			l.cursor = math.MaxInt32 - p.below(2)
		}
		t.leaves[i] = l
		children[l.parent] = append(children[l.parent], i)
	}
	for i, list := range children {
		if len(list) > 0 && p.below(5) > 0 {
			t.leaves[i].next = list[p.below(len(list))]
		}
	}
	for next := t.leaves[0].next; next != 0 && p.below(4) > 0; next = t.leaves[t.now].next {
		t.now = next
	}
	return t
}

// ends are numbers about the bounds of what the calls tell apart, and at both ends of an int.
func ends() []int {
	return []int{math.MinInt, math.MinInt + 1, math.MinInt32, -4097, -2, -1, 0, 1, 2, 3, 4096, 4097, 4098, math.MaxInt32 - 1, math.MaxInt32, math.MaxInt32 + 1, math.MaxInt - 1, math.MaxInt}
}

func none() spots { return all(-1) }

func all(x int) spots {
	var m spots
	for i := range m {
		m[i] = x
	}
	return m
}

// with is m with the mark number i at x.
func with(m spots, i, x int) spots {
	m[i] = x
	return m
}

func one(at int, old, new string) []swap { return []swap{{at, old, new}} }

// The calls, with their answers held against the chapter's words (P18.1). They hand on what was answered.

func checkAsTold(t *testing.T, u tree) api.Errno {
	t.Helper()
	want := api.OK
	if !wordRight(u) {
		want = errGrove
	}
	if e := grove.Check(asGrove(u)); e != want {
		t.Fatalf("Check of %v = %d; want %d", u, e, want)
	}
	return want
}

func addAsTold(t *testing.T, u tree, l leaf) (tree, api.Errno) {
	t.Helper()
	want, wantE := wordAdd(u, l)
	g, e := grove.Add(asGrove(u), asEdits(l.edits), l.cursor, asMarks(l.was), asMarks(l.made))
	got := asTree(g)
	if e != wantE || !got.same(want) {
		t.Fatalf("Add of %v to %v = %v, %d; want %v, %d", l, u, got, e, want, wantE)
	}
	keeps(t, u, got, e)
	return got, e
}

// told holds what Undo, Redo or Go answered against what the words give.
func told(t *testing.T, what string, u tree, g api.Grove, c api.Crossing, e api.Errno, want tree, wantC trip, wantE api.Errno) (tree, trip, api.Errno) {
	t.Helper()
	got, gotC := asTree(g), asTrip(c)
	if e != wantE || !got.same(want) || !gotC.same(wantC) {
		t.Fatalf("%s of %v = %v, %v, %d; want %v, %v, %d", what, u, got, gotC, e, want, wantC, wantE)
	}
	keeps(t, u, got, e)
	return got, gotC, e
}

func undoAsTold(t *testing.T, u tree, m spots) (tree, trip, api.Errno) {
	t.Helper()
	want, wantC, wantE := wordUndo(u, m)
	g, c, e := grove.Undo(asGrove(u), asMarks(m))
	return told(t, "Undo", u, g, c, e, want, wantC, wantE)
}

func redoAsTold(t *testing.T, u tree, m spots) (tree, trip, api.Errno) {
	t.Helper()
	want, wantC, wantE := wordRedo(u, m)
	g, c, e := grove.Redo(asGrove(u), asMarks(m))
	return told(t, "Redo", u, g, c, e, want, wantC, wantE)
}

func goAsTold(t *testing.T, u tree, to int, m spots) (tree, trip, api.Errno) {
	t.Helper()
	want, wantC, wantE := wordGo(u, to, m)
	g, c, e := grove.Go(asGrove(u), to, asMarks(m))
	return told(t, "Go", u, g, c, e, want, wantC, wantE)
}

func pathAsTold(t *testing.T, u tree, from, to int) ([]int, []int, api.Errno) {
	t.Helper()
	wantUp, wantDown, wantE := wordPath(u, from, to)
	up, down, e := grove.Path(asGrove(u), from, to)
	if e != wantE || !slices.Equal(up, wantUp) || !slices.Equal(down, wantDown) {
		t.Fatalf("Path from %d to %d in %v = %v, %v, %d; want %v, %v, %d", from, to, u, up, down, e, wantUp, wantDown, wantE)
	}
	return up, down, e
}

// keeps: P18.3, of what a call that was not refused made of u.
func keeps(t *testing.T, u, got tree, e api.Errno) {
	t.Helper()
	if e != api.OK {
		return
	}
	if len(got.leaves) < len(u.leaves) {
		t.Fatalf("of %v are left %v", u, got)
	}
	for i, l := range u.leaves {
		k := got.leaves[i]
		if k.parent != l.parent || k.cursor != l.cursor || !slices.Equal(k.edits, l.edits) {
			t.Fatalf("node %d of %v has become %v", i, u, k)
		}
	}
}

// thereAndBack: P18.2, of the history u with the marks m.
func thereAndBack(t *testing.T, u tree, m spots) {
	t.Helper()
	if g, c, e := grove.Undo(asGrove(u), asMarks(m)); e == api.OK {
		h, d, f := grove.Redo(g, c.Marks)
		isBack(t, "Redo behind Undo", u, u.now, m, h, d, f)
		if !slices.Equal(asSwaps(d.Edits), u.leaves[u.now].edits) {
			t.Fatalf("Redo behind Undo of %v has the edits %v", u, asSwaps(d.Edits))
		}
	}
	if g, c, e := grove.Redo(asGrove(u), asMarks(m)); e == api.OK {
		h, d, f := grove.Undo(g, c.Marks)
		isBack(t, "Undo behind Redo", u, g.Now, m, h, d, f)
		if !slices.Equal(asSwaps(d.Edits), wordBack(u.leaves[g.Now].edits)) {
			t.Fatalf("Undo behind Redo of %v has the edits %v", u, asSwaps(d.Edits))
		}
	}
}

// isBack: is it u again, but for the marks of node i, and are the marks m again?
func isBack(t *testing.T, what string, u tree, i int, m spots, h api.Grove, d api.Crossing, e api.Errno) {
	t.Helper()
	if e != api.OK || asSpots(d.Marks) != m {
		t.Fatalf("%s of %v: %d, the marks %v; want %v", what, u, e, asSpots(d.Marks), m)
	}
	got := asTree(h)
	got.leaves[i].was, got.leaves[i].made = u.leaves[i].was, u.leaves[i].made
	if !got.same(u) {
		t.Fatalf("%s of %v is %v", what, u, got)
	}
}

// staysRight: P18.5, of what a call answered.
func staysRight(t *testing.T, u tree, e api.Errno) {
	t.Helper()
	if e == api.OK && (!wordRight(u) || grove.Check(asGrove(u)) != api.OK) {
		t.Fatalf("an answer isn't right: %v", u)
	}
}

func TestNew(t *testing.T) {
	g := grove.New()
	if !asTree(g).same(tree{leaves: make([]leaf, 1)}) {
		t.Errorf("New = %v", asTree(g))
	}
	if e := grove.Check(g); e != api.OK {
		t.Errorf("Check of New = %d", e)
	}
	g.Nodes[0].Next, g.Now = 5, 5
	if h := grove.New(); h.Now != 0 || h.Nodes[0].Next != 0 {
		t.Errorf("New is what was made of an earlier one: %v", asTree(h))
	}
}

// The chapter's examples, their answers written out.
func TestExamples(t *testing.T) {
	start := asTree(grove.New())
	change := func(u tree, text string) tree {
		v, e := addAsTold(t, u, leaf{edits: one(0, "", text), was: none(), made: none()})
		if e != api.OK {
			t.Fatalf("Add of %q: %d", text, e)
		}
		return v
	}
	u := change(start, "a")
	if len(u.leaves) != 2 || u.now != 1 || u.leaves[0].next != 1 || u.leaves[1].parent != 0 {
		t.Fatalf("behind the first change: %v", u)
	}
	u, c, e := undoAsTold(t, u, none())
	if e != api.OK || u.now != 0 || !slices.Equal(c.edits, one(0, "a", "")) {
		t.Fatalf("Undo: %v, %v, %d", u, c, e)
	}
	again, c, e := redoAsTold(t, u, none())
	if e != api.OK || again.now != 1 || !slices.Equal(c.edits, one(0, "", "a")) {
		t.Fatalf("Redo: %v, %v, %d", again, c, e)
	}
	u, _, _ = undoAsTold(t, again, none())
	u = change(u, "b")
	if u.now != 2 || u.leaves[2].parent != 0 || u.leaves[0].next != 2 {
		t.Fatalf("behind the second change: %v", u)
	}
	up, down, e := pathAsTold(t, u, 2, 1)
	if e != api.OK || !slices.Equal(up, []int{2}) || !slices.Equal(down, []int{1}) {
		t.Fatalf("Path: %v, %v, %d", up, down, e)
	}
	u, c, e = goAsTold(t, u, 1, none())
	if e != api.OK || u.now != 1 || u.leaves[0].next != 1 || !slices.Equal(c.edits, []swap{{0, "b", ""}, {0, "", "a"}}) {
		t.Fatalf("Go to 1: %v, %v, %d", u, c, e)
	}
	u, _, _ = undoAsTold(t, u, none())
	if u, _, e = redoAsTold(t, u, none()); e != api.OK || u.now != 1 {
		t.Fatalf("Undo, Redo: %v, %d", u, e)
	}
}

// The chapter's examples of calls that are refused, or have nothing to cross.
func TestRefusedExamples(t *testing.T) {
	g, m := grove.New(), pins.None()
	if h, c, e := grove.Undo(g, m); e != 181 || len(h.Nodes) > 0 || !asTrip(c).same(trip{}) {
		t.Errorf("Undo of New: %v, %v, %d", h, c, e)
	}
	if _, _, e := grove.Redo(g, m); e != 182 {
		t.Errorf("Redo of New: %d", e)
	}
	if h, c, e := grove.Go(g, 0, m); e != 0 || len(h.Nodes) != 1 || len(c.Edits) != 0 || c.Cursor != 0 || c.Marks != m {
		t.Errorf("Go to 0: %v, %v, %d", h, c, e)
	}
	if _, _, e := grove.Go(g, 1, m); e != 182 {
		t.Errorf("Go to 1: %d", e)
	}
	if _, _, e := grove.Go(g, -1, m); e != 181 {
		t.Errorf("Go to -1: %d", e)
	}
	for _, edits := range [][]swap{nil, one(0, "x", "x"), one(-1, "", "x"), one(0, "", "")} {
		if h, e := grove.Add(g, asEdits(edits), 0, m, m); e != 2 || len(h.Nodes) > 0 {
			t.Errorf("Add of %v: %v, %d", edits, h, e)
		}
	}
	if e := grove.Check(api.Grove{}); e != 180 {
		t.Errorf("Check of the zero history: %d", e)
	}
}

// Where the cursor and the marks go, written out.
func TestCursorAndMarks(t *testing.T) {
	// The text abcdef, with the marks a at 3, b at 5; bcd and then f are taken out, the cursor at 4.
	edits := []swap{{5, "f", ""}, {1, "bcd", ""}}
	was := with(with(none(), 0, 3), 1, 5)
	made := with(with(none(), 0, 1), 1, 2)
	u, _ := addAsTold(t, asTree(grove.New()), leaf{edits: edits, cursor: 4, was: was, made: made})
	// In the meantime c was set to 1, and b to 0.
	now := with(with(made, 2, 1), 1, 0)
	v, c, _ := undoAsTold(t, u, now)
	want := trip{[]swap{{1, "", "bcd"}, {5, "", "f"}}, 4, with(with(with(none(), 0, 3), 1, 0), 2, 4)}
	if !c.same(want) || v.leaves[1].was != now || v.leaves[1].made != want.marks {
		t.Fatalf("Undo: %v, %v; want %v", v, c, want)
	}
	// b has not moved since: it goes back to 0; a is set to 6, and is moved to 2.
	w, c, _ := redoAsTold(t, v, with(c.marks, 0, 6))
	want = trip{edits, 1, with(with(with(none(), 0, 2), 1, 0), 2, 1)}
	if !c.same(want) || w.leaves[1].made != want.marks {
		t.Fatalf("Redo: %v, %v; want %v", w, c, want)
	}
}

// Each crossing of a longer way goes with the marks that the one ahead of it left.
func TestGoOverMany(t *testing.T) {
	u := asTree(grove.New())
	m := with(none(), 26, 0)
	for _, s := range []swap{{0, "", "ab"}, {2, "", "c"}, {1, "b", "xyz"}} {
		k := wordCross(m, none(), spots{26: -7}, []swap{s})
		u, _ = addAsTold(t, u, leaf{edits: []swap{s}, cursor: s.at + 3, was: m, made: k})
		m = k
	}
	if m[26] != 5 {
		t.Fatalf("Back is at %d", m[26])
	}
	u, c, _ := goAsTold(t, u, 0, m)
	if want := (trip{[]swap{{1, "xyz", "b"}, {2, "c", ""}, {0, "ab", ""}}, 3, with(none(), 26, 0)}); !c.same(want) {
		t.Fatalf("Go to 0: %v; want %v", c, want)
	}
	u, c, _ = goAsTold(t, u, 2, c.marks)
	if want := (trip{[]swap{{0, "", "ab"}, {2, "", "c"}}, 2, with(none(), 26, 3)}); !c.same(want) {
		t.Fatalf("Go to 2: %v; want %v", c, want)
	}
	if u.now != 2 || u.leaves[2].next != 3 || u.leaves[1].next != 2 || u.leaves[0].next != 1 {
		t.Fatalf("behind Go to 2: %v", u)
	}
}

// The Next of a node that is left by a crossing up stays; one that is entered by a crossing down becomes its parent's.
func TestNext(t *testing.T) {
	u := asTree(grove.New())
	u.leaves[0].next = 1
	for _, l := range []leaf{{parent: 0, next: 3}, {parent: 0}, {parent: 1}, {parent: 1}, {parent: 2}, {parent: 2}} {
		l.edits = one(0, "", "q")
		u.leaves = append(u.leaves, l)
	}
	u.now = 3
	for _, step := range []struct {
		to   int
		next []int
	}{
		{3, []int{1, 3, 0, 0, 0, 0, 0}},
		{4, []int{1, 4, 0, 0, 0, 0, 0}},
		{6, []int{2, 4, 6, 0, 0, 0, 0}},
		{2, []int{2, 4, 6, 0, 0, 0, 0}},
		{5, []int{2, 4, 5, 0, 0, 0, 0}},
		{0, []int{2, 4, 5, 0, 0, 0, 0}},
		{1, []int{1, 4, 5, 0, 0, 0, 0}},
		{3, []int{1, 3, 5, 0, 0, 0, 0}},
	} {
		v, _, e := goAsTold(t, u, step.to, none())
		var next []int
		for _, l := range v.leaves {
			next = append(next, l.next)
		}
		if e != api.OK || v.now != step.to || !slices.Equal(next, step.next) {
			t.Fatalf("Go to %d: now %d, next %v, %d; want %v", step.to, v.now, next, e, step.next)
		}
		u = v
	}
}

// TestShapes: Check of every small history by its Parents, Nexts and Now, also such as are far from right.
func TestShapes(t *testing.T) {
	for n := range 4 {
		right := 0
		u := tree{leaves: make([]leaf, n)}
		for i := 1; i < n; i++ {
			u.leaves[i].edits = one(0, "", "x")
		}
		g := asGrove(u)
		everyShape(g, 0, func() {
			u.now = g.Now
			for i, k := range g.Nodes {
				u.leaves[i].parent, u.leaves[i].next = k.Parent, k.Next
			}
			want := api.OK
			if !wordRight(u) {
				want = errGrove
			} else {
				right++
			}
			if e := grove.Check(g); e != want {
				t.Fatalf("Check of %v = %d; want %d", u, e, want)
			}
		}, &g)
		// Of three nodes 7 are a row and 5 have both changes at the beginning.
		if want := []int{0, 1, 3, 12}[n]; right != want {
			t.Errorf("%d histories of %d nodes are right; want %d", right, n, want)
		}
	}
}

// everyShape sets the nodes from i on and Now to all there is about the numbers of nodes.
func everyShape(g api.Grove, i int, f func(), all *api.Grove) {
	n := len(g.Nodes)
	if i == n {
		for now := -1; now <= n; now++ {
			all.Now = now
			f()
		}
		return
	}
	for parent := -1; parent <= n; parent++ {
		for next := -1; next <= n; next++ {
			g.Nodes[i].Parent, g.Nodes[i].Next = parent, next
			everyShape(g, i+1, f, all)
		}
	}
}

// TestLedShapes: Check of every history of five nodes that hang as they should, by their Nexts and Now.
func TestLedShapes(t *testing.T) {
	const n = 5
	for shape := range 24 {
		u := tree{leaves: make([]leaf, n)}
		rest := shape
		for i := 1; i < n; i++ {
			u.leaves[i] = leaf{parent: rest % i, edits: one(0, "", "x")}
			rest /= i
		}
		g := asGrove(u)
		for led := range 5 * 5 * 5 * 5 * 5 {
			rest := led
			for i := range n {
				u.leaves[i].next = rest % 5
				g.Nodes[i].Next = rest % 5
				rest /= 5
			}
			for now := range n {
				u.now, g.Now = now, now
				if right := wordRight(u); right != (grove.Check(g) == api.OK) {
					t.Fatalf("Check of %v = %d", u, grove.Check(g))
				} else if right {
					pathsAsTold(t, u)
				}
			}
		}
	}
}

// pathsAsTold asks the ways between all nodes, and some that there are not.
func pathsAsTold(t *testing.T, u tree) {
	t.Helper()
	n := len(u.leaves)
	for from := -1; from <= n; from++ {
		for to := -1; to <= n; to++ {
			up, down, _ := pathAsTold(t, u, from, to)
			for _, i := range up {
				if slices.Contains(down, i) {
					t.Fatalf("node %d stands in both %v and %v", i, up, down)
				}
			}
			if from == to && len(up)+len(down) > 0 {
				t.Fatalf("the way from %d to itself: %v, %v", from, up, down)
			}
		}
	}
}

// sample is a right history with a node of each sort: two children, two edits, all marks.
func sample() tree {
	return tree{now: 2, leaves: []leaf{
		{next: 1},
		{parent: 0, next: 2, cursor: 7, edits: []swap{{3, "a", "bc"}, {0, "", "d"}}, was: all(4), made: all(6)},
		{parent: 1, cursor: 0, edits: one(2, "", "e"), was: none(), made: all(0)},
		{parent: 1, cursor: 1, edits: one(0, "dd", ""), was: all(2), made: none()},
	}}
}

// TestSpoiled: each bound of each field, in a history that is right but for that.
func TestSpoiled(t *testing.T) {
	spoil := func(what string, right bool, f func(u *tree)) {
		u := sample()
		f(&u)
		if wordRight(u) != right {
			t.Fatalf("%s: the words say %v", what, !right)
		}
		if e := grove.Check(asGrove(u)); (e == api.OK) != right || e != api.OK && e != 180 {
			t.Errorf("%s: Check = %d", what, e)
		}
		if !right {
			allRefuse(t, what, u)
		}
	}
	spoil("sample", true, func(u *tree) {})
	for _, x := range ends() {
		spoil("Now", x == 0 || x == 1 || x == 2, func(u *tree) { u.now = x })
		place := x >= 0 && x <= 2147483647
		for i := range 4 {
			spoil("Cursor", place && i > 0 || x == 0, func(u *tree) { u.leaves[i].cursor = x })
		}
		spoil("At", place, func(u *tree) { u.leaves[1].edits[0].at = x })
		spoil("At of a later edit", place, func(u *tree) { u.leaves[1].edits[1].at = x })
		spoil("Parent of node 0", x == 0, func(u *tree) { u.leaves[0].parent = x })
		spoil("Parent of node 3", x == 0 || x == 1 || x == 2, func(u *tree) { u.leaves[3].parent = x })
		spoil("Parent of node 2", x == 1, func(u *tree) { u.leaves[2].parent = x })
		spoil("Next of node 0", x == 1, func(u *tree) { u.leaves[0].next = x })
		spoil("Next of node 1", x == 2, func(u *tree) { u.leaves[1].next = x })
		spoil("Next of node 2", x == 0, func(u *tree) { u.leaves[2].next = x })
		for i := range 27 {
			for node := range 4 {
				right := x >= -1 && node > 0 || x == 0
				spoil("Was", right, func(u *tree) { u.leaves[node].was[i] = x })
				spoil("Made", right, func(u *tree) { u.leaves[node].made[i] = x })
			}
		}
	}
	for i := 1; i < 4; i++ {
		spoil("no edits", false, func(u *tree) { u.leaves[i].edits = nil })
	}
	spoil("edits of node 0", false, func(u *tree) { u.leaves[0].edits = one(0, "", "x") })
	spoil("edits of node 0 that do nothing", false, func(u *tree) { u.leaves[0].edits = one(0, "", "") })
	for _, text := range []string{"", "a", "bc", "\x00", strings.Repeat("long ", 999)} {
		spoil("an edit that does nothing", false, func(u *tree) { u.leaves[1].edits[0] = swap{3, text, text} })
		spoil("a later edit that does nothing", false, func(u *tree) { u.leaves[1].edits[1] = swap{3, text, text} })
		spoil("an edit that does something", true, func(u *tree) { u.leaves[1].edits[1] = swap{3, text, text + "x"} })
	}
	spoil("no nodes", false, func(u *tree) { u.leaves = nil })
	spoil("no nodes, Now 0", false, func(u *tree) { *u = tree{} })
	spoil("a node without anything", false, func(u *tree) { u.leaves = append(u.leaves, leaf{}) })
	spoil("Now off the way", false, func(u *tree) { u.now = 3 })
	spoil("Now on the other way", true, func(u *tree) { u.now, u.leaves[1].next = 3, 3 })
}

// allRefuse: each call answers ErrGrove ahead of all else, and nothing beside it.
func allRefuse(t *testing.T, what string, u tree) {
	t.Helper()
	g := asGrove(u)
	for _, m := range []spots{none(), with(none(), 3, -2)} {
		for _, to := range []int{-1, 0, 1, 9} {
			if h, c, e := grove.Go(g, to, asMarks(m)); e != 180 || !asTree(h).same(tree{}) || !asTrip(c).same(trip{}) {
				t.Errorf("%s: Go = %v, %v, %d", what, asTree(h), asTrip(c), e)
			}
			if up, down, e := grove.Path(g, to, 0); e != 180 || len(up)+len(down) > 0 {
				t.Errorf("%s: Path = %v, %v, %d", what, up, down, e)
			}
			if up, down, e := grove.Path(g, 0, to); e != 180 || len(up)+len(down) > 0 {
				t.Errorf("%s: Path = %v, %v, %d", what, up, down, e)
			}
		}
		if h, c, e := grove.Undo(g, asMarks(m)); e != 180 || !asTree(h).same(tree{}) || !asTrip(c).same(trip{}) {
			t.Errorf("%s: Undo = %v, %v, %d", what, asTree(h), asTrip(c), e)
		}
		if h, c, e := grove.Redo(g, asMarks(m)); e != 180 || !asTree(h).same(tree{}) || !asTrip(c).same(trip{}) {
			t.Errorf("%s: Redo = %v, %v, %d", what, asTree(h), asTrip(c), e)
		}
		if h, e := grove.Add(g, asEdits(one(0, "", "x")), 0, asMarks(m), asMarks(m)); e != 180 || !asTree(h).same(tree{}) {
			t.Errorf("%s: Add = %v, %d", what, asTree(h), e)
		}
		if h, e := grove.Add(g, nil, -1, asMarks(m), asMarks(m)); e != 180 || !asTree(h).same(tree{}) {
			t.Errorf("%s: Add of nothing = %v, %d", what, asTree(h), e)
		}
	}
}

// TestAddBounds: what Add asks of a node, field by field.
func TestAddBounds(t *testing.T) {
	good := leaf{cursor: 3, edits: []swap{{0, "", "x"}, {1, "y", ""}}, was: none(), made: all(0)}
	try := func(what string, right bool, f func(l *leaf)) {
		t.Helper()
		l := good
		l.edits = slices.Clone(good.edits)
		f(&l)
		for _, u := range []tree{asTree(grove.New()), sample()} {
			if _, e := addAsTold(t, u, l); (e == api.OK) != right || e != api.OK && e != 2 {
				t.Errorf("Add, %s: %d", what, e)
			}
		}
	}
	try("good", true, func(l *leaf) {})
	for _, x := range ends() {
		place := x >= 0 && x <= 2147483647
		try("cursor", place, func(l *leaf) { l.cursor = x })
		try("At", place, func(l *leaf) { l.edits[0].at = x })
		try("At of the last edit", place, func(l *leaf) { l.edits[1].at = x })
		for i := range 27 {
			try("was", x >= -1, func(l *leaf) { l.was[i] = x })
			try("made", x >= -1, func(l *leaf) { l.made[i] = x })
		}
	}
	try("no edits", false, func(l *leaf) { l.edits = nil })
	try("an edit that does nothing", false, func(l *leaf) { l.edits[0].new = "" })
	try("a last edit that does nothing", false, func(l *leaf) { l.edits[1].new = "y" })
	// What a node of a history may not have, its Parent and Next, Add sets by itself.
	try("Parent and Next", true, func(l *leaf) { l.parent, l.next = -5, 77 })
}

// TestWrongMarks: each mark of what Undo, Redo and Go are handed.
func TestWrongMarks(t *testing.T) {
	u := sample()
	u.now = 1
	for _, x := range ends() {
		for i := range 27 {
			m := with(all(1), i, x)
			_, _, a := undoAsTold(t, u, m)
			_, _, b := redoAsTold(t, u, m)
			_, _, c := goAsTold(t, u, 3, m)
			_, _, d := goAsTold(t, u, 1, m)
			want := api.OK
			if x < -1 {
				want = 2
			}
			if a != want || b != want || c != want || d != want {
				t.Fatalf("with the mark %d at %d: %d, %d, %d, %d", i, x, a, b, c, d)
			}
		}
	}
}

// TestOrder: of several errors the first one that the chapter lists is answered.
func TestOrder(t *testing.T) {
	bad := with(none(), 0, -2)
	u := asTree(grove.New())
	if _, _, e := undoAsTold(t, u, bad); e != 2 {
		t.Errorf("Undo: %d", e)
	}
	if _, _, e := redoAsTold(t, u, bad); e != 2 {
		t.Errorf("Redo: %d", e)
	}
	for _, to := range ends() {
		if _, _, e := goAsTold(t, u, to, bad); e != 2 {
			t.Errorf("Go to %d: %d", to, e)
		}
		_, _, e := goAsTold(t, u, to, none())
		if want := map[bool]api.Errno{true: 181, false: 182}[to < 0]; e != want && to != 0 {
			t.Errorf("Go to %d: %d", to, e)
		}
		for _, from := range ends() {
			pathAsTold(t, sample(), from, to)
		}
	}
}

// TestWalks: P18.1 to P18.5 on histories that were made by the calls, of texts that all edits fit.
func TestWalks(t *testing.T) {
	p := picker(18)
	for range 60 {
		texts := []string{p.text(12)}
		u, m := asTree(grove.New()), p.marks(12)
		for range 40 {
			var e api.Errno
			var c trip
			text := texts[u.now]
			switch p.below(6) {
			case 0, 1:
				edits, behind := p.fitting(text)
				made := wordCross(m, none(), all(-7), edits)
				u, e = addAsTold(t, u, leaf{edits: edits, cursor: p.below(len(text) + 1), was: m, made: made})
				texts, m = append(texts, behind), made
				staysRight(t, u, e)
				continue
			case 2:
				m = p.near(m)
				thereAndBack(t, u, m)
				everyGo(t, u, m, texts)
				continue
			case 3:
				u, c, e = step(u)(undoAsTold(t, u, m))
			case 4:
				u, c, e = step(u)(redoAsTold(t, u, m))
			case 5:
				u, c, e = step(u)(goAsTold(t, u, p.below(len(texts)+2)-1, m))
			}
			if e != api.OK {
				continue
			}
			if behind, ok := wordText(text, c.edits); !ok || behind != texts[u.now] {
				t.Fatalf("the edits %v lead from %q to %q, %v; want %q", c.edits, text, behind, ok, texts[u.now])
			}
			staysRight(t, u, e)
			m = c.marks
		}
	}
}

// step is what a call answered, with the history as it was if that was refused.
func step(u tree) func(tree, trip, api.Errno) (tree, trip, api.Errno) {
	return func(v tree, c trip, e api.Errno) (tree, trip, api.Errno) {
		if e != api.OK {
			return u, c, e
		}
		return v, c, e
	}
}

// everyGo: P18.4, from where the history stands to each node, straight and around by each other one.
func everyGo(t *testing.T, u tree, m spots, texts []string) {
	t.Helper()
	g := asGrove(u)
	for i := range texts {
		h, c, e := grove.Go(g, i, asMarks(m))
		behind, ok := wordText(texts[u.now], asSwaps(c.Edits))
		if e != api.OK || h.Now != i || !ok || behind != texts[i] {
			t.Fatalf("Go to %d of %v: %d, now %d, %q; want %q", i, u, e, h.Now, behind, texts[i])
		}
		for j := range texts {
			k, d, e := grove.Go(h, j, c.Marks)
			behind, ok := wordText(texts[i], asSwaps(d.Edits))
			if e != api.OK || k.Now != j || !ok || behind != texts[j] {
				t.Fatalf("Go to %d and to %d of %v: %d, now %d, %q; want %q", i, j, u, e, k.Now, behind, texts[j])
			}
		}
	}
}

// TestPicked: histories that were hung and marked at will, with marks up to the greatest int, and each call.
func TestPicked(t *testing.T) {
	p := picker(181)
	for range 3000 {
		u := p.history(1 + p.below(9))
		if checkAsTold(t, u) != api.OK {
			t.Fatalf("it isn't right: %v", u)
		}
		m := p.great()
		if n := p.below(len(u.leaves)); p.below(2) == 0 {
			m = p.near(u.leaves[n].made)
		}
		addAsTold(t, u, leaf{edits: p.any(), cursor: p.below(9), was: p.great(), made: p.great()})
		undoAsTold(t, u, m)
		redoAsTold(t, u, m)
		for i := -1; i <= len(u.leaves); i++ {
			goAsTold(t, u, i, m)
			pathAsTold(t, u, p.below(len(u.leaves)), i)
		}
	}
}

// TestUpTo2To40: P18.5 and P18.2 with the greatest marks that P18.5 speaks of, and texts that grow. (Greater ones can grow past the greatest int: what is answered then may not be right, and no call takes it.)
func TestUpTo2To40(t *testing.T) {
	p := picker(1840)
	high := func() spots {
		m := p.marks(12)
		for range p.below(9) {
			m[p.below(27)] = 1<<40 - p.below(3)
		}
		return m
	}
	long := strings.Repeat("z", 70000)
	for range 300 {
		u := p.history(2 + p.below(8))
		for i := range u.leaves[1:] {
			u.leaves[i+1].was, u.leaves[i+1].made = high(), high()
			if p.below(4) == 0 {
				u.leaves[i+1].edits = one(p.below(9), "a", long)
			}
		}
		v, e := addAsTold(t, u, leaf{edits: p.any(), was: high(), made: high()})
		staysRight(t, v, e)
		v, _, e = undoAsTold(t, u, high())
		staysRight(t, v, e)
		v, _, e = redoAsTold(t, u, high())
		staysRight(t, v, e)
		thereAndBack(t, u, high())
		for to := range u.leaves {
			v, _, e = goAsTold(t, u, to, high())
			staysRight(t, v, e)
		}
	}
}

// TestFull: histories at the limit and one past it, in a row and all at the beginning.
func TestFull(t *testing.T) {
	for _, row := range []int{0, 1} {
		u := tree{leaves: make([]leaf, 1)}
		for i := 1; i <= 4096; i++ {
			u.leaves = append(u.leaves, leaf{parent: row * (i - 1), edits: one(0, "", "x"), was: none(), made: none()})
			u.leaves[row*(i-1)].next = i
		}
		l := leaf{edits: one(0, "", "y"), was: none(), made: none()}
		for _, now := range []int{0, 4096} {
			u.now = now
			if e := checkAsTold(t, u); e != api.OK {
				t.Fatalf("a full history: %d", e)
			}
			if _, e := addAsTold(t, u, l); e != 183 {
				t.Errorf("Add to a full history: %d", e)
			}
			if _, e := addAsTold(t, u, leaf{edits: one(-1, "", "y")}); e != 2 {
				t.Errorf("Add of a wrong change to a full history: %d", e)
			}
			for _, to := range []int{0, 1, 2048, 4095, 4096, 4097} {
				pathAsTold(t, u, now, to)
				pathAsTold(t, u, to, 4095)
			}
			fullGo(t, u, row)
		}
		most := u.copy()
		most.leaves = append(most.leaves, leaf{parent: 0, edits: one(0, "", "x")})
		if e := checkAsTold(t, most); e != 180 {
			t.Errorf("one node too many: %d", e)
		}
		less := u.copy()
		less.leaves, less.now = less.leaves[:4096], 0
		less.leaves[0].next = row
		less.leaves[4095].next = 0
		if less, e := addAsTold(t, less, l); e != api.OK || len(less.leaves) != 4097 || less.now != 4096 {
			t.Errorf("the last change: %d", e)
		}
	}
}

// fullGo goes from one end of a full history to the other.
func fullGo(t *testing.T, u tree, row int) {
	t.Helper()
	to := 4096 - u.now
	h, c, e := grove.Go(asGrove(u), to, asMarks(all(5)))
	if e != api.OK || h.Now != to || len(c.Edits) != max(1, row*4096) {
		t.Fatalf("Go from %d to %d: now %d, %d edits, %d", u.now, to, h.Now, len(c.Edits), e)
	}
	shift := len(c.Edits)
	if to == 0 {
		shift = -min(shift, 5)
	}
	if want := asMarks(all(5 + shift)); c.Marks != want {
		t.Fatalf("Go from %d to %d: the marks %v; want %v", u.now, to, c.Marks, want)
	}
	if asSpots(h.Nodes[max(u.now, to)].Was) != all(5) && to == 0 {
		t.Fatalf("the first node that was crossed has Was %v", h.Nodes[4096].Was)
	}
}

// TestManyAdded: a history made by Add alone, to its limit.
func TestManyAdded(t *testing.T) {
	g, m := grove.New(), pins.None()
	for i := 1; i <= 4096; i++ {
		h, e := grove.Add(g, []api.Edit{{At: i, New: []byte("x")}}, i, m, m)
		if e != api.OK || h.Now != i || len(h.Nodes) != i+1 || h.Nodes[i].Parent != i-1 || h.Nodes[i-1].Next != i {
			t.Fatalf("change %d: %d", i, e)
		}
		g = h
	}
	if _, e := grove.Add(g, []api.Edit{{New: []byte("x")}}, 0, m, m); e != 183 {
		t.Errorf("one more: %d", e)
	}
	h, c, e := grove.Go(g, 0, m)
	if e != api.OK || h.Now != 0 || len(c.Edits) != 4096 || c.Cursor != 1 || c.Edits[4095].At != 1 {
		t.Errorf("Go to 0: %d", e)
	}
}

// TestLowerLayers: the crossings are those of change and pins.
func TestLowerLayers(t *testing.T) {
	p := picker(1617)
	for range 300 {
		u := p.history(2 + p.below(6))
		m, g := asMarks(p.great()), asGrove(u)
		if _, c, e := grove.Undo(g, m); e == api.OK {
			n := g.Nodes[g.Now]
			back := change.Invert(n.Edits)
			if !slices.Equal(asSwaps(c.Edits), asSwaps(back)) || c.Cursor != n.Cursor || c.Marks != pins.Cross(m, n.Was, n.Made, back) {
				t.Fatalf("Undo of %v: %v", u, asTrip(c))
			}
		}
		if _, c, e := grove.Redo(g, m); e == api.OK {
			n := g.Nodes[g.Nodes[g.Now].Next]
			if !slices.Equal(asSwaps(c.Edits), asSwaps(n.Edits)) || c.Cursor != change.First(n.Edits) || c.Marks != pins.Cross(m, n.Was, n.Made, n.Edits) {
				t.Fatalf("Redo of %v: %v", u, asTrip(c))
			}
		}
	}
}

// A store is a history and edits laid into lists with spare room, all of which can be asked whether they are as they were.
type store struct {
	g     api.Grove
	edits []api.Edit
	rooms []func() bool
}

// roomy is a list like that given, with spare room that holds other things than zero.
func roomy[T any](s *store, list []T, spare T, same func(a, b T) bool) []T {
	room := append(slices.Clone(list), spare, spare)
	was := slices.Clone(room)
	s.rooms = append(s.rooms, func() bool { return slices.EqualFunc(room, was, same) })
	return room[:len(list)]
}

func (s *store) text(text []byte) []byte {
	return roomy(s, text, 0xEE, func(a, b byte) bool { return a == b })
}

func (s *store) list(edits []api.Edit) []api.Edit {
	laid := slices.Clone(edits)
	for i, e := range laid {
		laid[i].Old, laid[i].New = s.text(e.Old), s.text(e.New)
	}
	return roomy(s, laid, api.Edit{At: 77}, sameEdit)
}

func newStore(u tree, edits []swap) *store {
	s := &store{g: asGrove(u)}
	for i, n := range s.g.Nodes {
		s.g.Nodes[i].Edits = s.list(n.Edits)
	}
	s.g.Nodes = roomy(s, s.g.Nodes, api.Node{Cursor: 77}, sameNode)
	s.edits = s.list(asEdits(edits))
	return s
}

func (s *store) untouched(t *testing.T, what string) {
	t.Helper()
	for _, as := range s.rooms {
		if !as() {
			t.Fatalf("%s changed what it was handed", what)
		}
	}
}

// sameEdit and sameNode ask for the very same lists, not for such as hold the same.
func sameEdit(a, b api.Edit) bool {
	return a.At == b.At && len(a.Old) == len(b.Old) && len(a.New) == len(b.New) && base(a.Old) == base(b.Old) && base(a.New) == base(b.New)
}

func sameNode(a, b api.Node) bool {
	return a.Parent == b.Parent && a.Next == b.Next && a.Cursor == b.Cursor && a.Was == b.Was && a.Made == b.Made && len(a.Edits) == len(b.Edits) && base(a.Edits) == base(b.Edits)
}

func base[T any](list []T) *T {
	if cap(list) == 0 {
		return nil
	}
	return &list[:1][0]
}

// fillEdits writes all over the edits, their bytes and the spare room of both.
func fillEdits(edits []api.Edit, x byte) {
	for _, e := range edits {
		fillText(e.Old, x)
		fillText(e.New, x)
	}
	edits = edits[:cap(edits)]
	for i := range edits {
		edits[i] = api.Edit{At: int(x)}
	}
}

func fillText(text []byte, x byte) {
	text = text[:cap(text)]
	for i := range text {
		text[i] = x
	}
}

func fillGrove(g api.Grove, x byte) {
	for _, n := range g.Nodes {
		fillEdits(n.Edits, x)
	}
	nodes := g.Nodes[:cap(g.Nodes)]
	for i := range nodes {
		nodes[i] = api.Node{Cursor: int(x)}
	}
}

// texts are all lists of bytes of an answer.
func texts(g api.Grove, edits []api.Edit) [][]byte {
	var list [][]byte
	for _, e := range edits {
		list = append(list, e.Old, e.New)
	}
	for _, n := range g.Nodes {
		list = append(list, texts(api.Grove{}, n.Edits)...)
	}
	return list
}

// apart: do no two lists of one answer share memory? Each is filled to the end of its room with a number of its own.
func apart(t *testing.T, what string, g api.Grove, edits []api.Edit) {
	t.Helper()
	for i, text := range texts(g, edits) {
		fillText(text, byte(i+1))
	}
	for i, text := range texts(g, edits) {
		for _, b := range text[:cap(text)] {
			if b != byte(i+1) {
				t.Fatalf("%s: two lists of bytes share some", what)
			}
		}
	}
	lists := [][]api.Edit{edits}
	for _, n := range g.Nodes {
		lists = append(lists, n.Edits)
	}
	for i, list := range lists {
		fillEdits(list, byte(i+1))
	}
	for i, list := range lists {
		for _, e := range list[:cap(list)] {
			if e.At != i+1 {
				t.Fatalf("%s: two lists of edits share some", what)
			}
		}
	}
}

// An answer is what a call answered, of whatever kind.
type answer struct {
	g api.Grove
	c api.Crossing
	n []int
	m []int
}

// calls are all that answer lists, of a store.
func calls(s *store, m spots) []func() answer {
	k := asMarks(m)
	list := []func() answer{
		func() answer { g, _ := grove.Add(s.g, s.edits, 3, k, k); return answer{g: g} },
		func() answer { g, c, _ := grove.Undo(s.g, k); return answer{g: g, c: c} },
		func() answer { g, c, _ := grove.Redo(s.g, k); return answer{g: g, c: c} },
		func() answer { return answer{g: grove.New()} },
		func() answer { grove.Check(s.g); return answer{} },
	}
	for i := range s.g.Nodes {
		list = append(list, func() answer { g, c, _ := grove.Go(s.g, i, k); return answer{g: g, c: c} })
		list = append(list, func() answer { up, down, _ := grove.Path(s.g, s.g.Now, i); return answer{n: up, m: down} })
	}
	return list
}

func (a answer) same(b answer) bool {
	return asTree(a.g).same(asTree(b.g)) && asTrip(a.c).same(asTrip(b.c)) && slices.Equal(a.n, b.n) && slices.Equal(a.m, b.m)
}

func (a answer) fill(x byte) {
	fillGrove(a.g, x)
	fillEdits(a.c.Edits, x)
	for i := range a.n[:cap(a.n)] {
		a.n[:cap(a.n)][i] = int(x)
	}
	for i := range a.m[:cap(a.m)] {
		a.m[:cap(a.m)][i] = -int(x)
	}
}

// TestMemory: rules 5 and 6, of every call: what is handed in stays as it is, also when the answer is written all over; two answers of one call share nothing; and a call answers the same again.
func TestMemory(t *testing.T) {
	p := picker(185)
	histories := []tree{sample(), asTree(grove.New())}
	for range 60 {
		histories = append(histories, p.history(1+p.below(7)))
	}
	for _, u := range histories {
		s := newStore(u, p.any())
		for i, call := range calls(s, p.marks(9)) {
			one := call()
			s.untouched(t, "a call")
			two, three := call(), call()
			if !one.same(two) || !one.same(three) {
				t.Fatalf("call %d on %v answers otherwise at another time", i, u)
			}
			two.fill(0xAA)
			if !one.same(three) {
				t.Fatalf("call %d on %v: two answers share memory", i, u)
			}
			s.untouched(t, "what is written over an answer")
			if four := call(); !one.same(four) {
				t.Fatalf("call %d on %v has kept what it answered", i, u)
			}
			for j := range one.n[:cap(one.n)] {
				one.n[:cap(one.n)][j] = -1
			}
			if !slices.Equal(one.m, three.m) {
				t.Fatalf("call %d on %v: up and down share memory", i, u)
			}
			apart(t, "a call", one.g, one.c.Edits)
			s.untouched(t, "what is written over an answer")
		}
	}
}

// TestHandedInLater: what was handed to Add and the like is not kept in the answer.
func TestHandedInLater(t *testing.T) {
	p := picker(186)
	for range 60 {
		u := p.history(1 + p.below(7))
		m := p.marks(9)
		for i := range calls(newStore(u, nil), m) {
			s := newStore(u, p.any())
			call := calls(s, m)[i]
			got := call()
			want := answer{asGrove(asTree(got.g)), api.Crossing{Edits: asEdits(asSwaps(got.c.Edits)), Cursor: got.c.Cursor, Marks: got.c.Marks}, slices.Clone(got.n), slices.Clone(got.m)}
			fillGrove(s.g, 0xBB)
			fillEdits(s.edits, 0xCC)
			if !got.same(want) {
				t.Fatalf("call %d on %v has kept what it was handed", i, u)
			}
		}
	}
}

// TestNilIsEmpty: rule 4, of node 0's Edits, of Old and New, and of the edits that Add is handed.
func TestNilIsEmpty(t *testing.T) {
	g, m := grove.New(), pins.None()
	g.Nodes[0].Edits = []api.Edit{}
	if e := grove.Check(g); e != api.OK {
		t.Fatalf("Check with no edits at node 0: %d", e)
	}
	for _, edits := range [][]api.Edit{nil, {}, {{Old: nil, New: []byte{}}}, {{Old: []byte{}, New: nil}}} {
		if _, e := grove.Add(g, edits, 0, m, m); e != 2 {
			t.Errorf("Add of %v: %d", edits, e)
		}
	}
	if e := grove.Check(api.Grove{Nodes: []api.Node{}}); e != 180 {
		t.Errorf("Check of no nodes: %d", e)
	}
	a, _ := grove.Add(g, []api.Edit{{Old: nil, New: []byte("x")}, {Old: []byte("x"), New: []byte{}}}, 0, m, m)
	b, _ := grove.Add(grove.New(), []api.Edit{{Old: []byte{}, New: []byte("x")}, {Old: []byte("x")}}, 0, m, m)
	if !asTree(a).same(asTree(b)) {
		t.Errorf("nil and empty: %v and %v", asTree(a), asTree(b))
	}
	a.Nodes[1].Edits[0].New, a.Nodes[1].Edits[0].Old = nil, []byte{}
	if e := grove.Check(a); e != 180 {
		t.Errorf("Check of an edit of nil and empty: %d", e)
	}
}
