package pattern_test

import (
	"bytes"
	"math"
	"regexp"
	"slices"
	"strings"
	"sync"
	"testing"

	"quoin/api"
	"quoin/pattern"
)

func find(p *pattern.Pattern, line []byte, from int) match {
	a, b, ok := p.Find(line, from)
	return match{a, b, ok}
}

func compiled(t *testing.T, p string) *pattern.Pattern {
	t.Helper()
	c, at, e := pattern.Compile([]byte(p))
	if c == nil || at != 0 || e != api.OK {
		t.Fatalf("Compile(%.99q) = %v, %d, %d", p, c, at, e)
	}
	return c
}

// A try is one search and what it must answer.
type try struct {
	pattern, line string
	from, a, b    int
}

const nowhere = -1

func holdFinds(t *testing.T, list []try) {
	t.Helper()
	for _, c := range list {
		want := match{c.a, c.b, true}
		if c.a == nowhere {
			want = match{}
		}
		if m := find(compiled(t, c.pattern), []byte(c.line), c.from); m != want {
			t.Errorf("%.99q in %.99q from %d: %v; want %v", c.pattern, c.line, c.from, m, want)
		}
	}
}

func TestExamples(t *testing.T) {
	holdFinds(t, []try{
		{"b.*d", "abcdbd", 0, 1, 6},
		{"x*", "axxb", 0, 0, 0}, {"x*", "axxb", 1, 1, 3}, {"x*", "axxb", 2, 2, 3},
		{"^a", "aa", 0, 0, 1}, {"^a", "aa", 1, nowhere, 0},
		{"a$", "aa", 0, 1, 2},
		{"a^b$c", "a^b$c", 0, 0, 5},
		{`\<go\>`, "ago go", 0, 4, 6},
		{"[^a-c]x", "axdx", 0, 2, 4},
		{"[]-]*", "]-]", 0, 0, 3},
		{"[--/]", "a.", 0, 1, 2},
		{"*a", "b*a", 0, 1, 3},
		{"^*", "*", 0, 0, 1},
		{"", "ab", 2, 2, 2}, {"", "ab", 3, nowhere, 0},
	})
	if all := compiled(t, "x*").All([]byte("axxb")); !slices.Equal(all, [][2]int{{0, 0}, {1, 3}, {3, 3}, {4, 4}}) {
		t.Errorf("All of x* in axxb: %v", all)
	}
	if q := pattern.Quote([]byte("a.b")); string(q) != `a\.b` {
		t.Errorf("Quote of a.b: %q", q)
	}
}

func holdFault(t *testing.T, p string, place int, want api.Errno) {
	t.Helper()
	if c, at, e := pattern.Compile([]byte(p)); c != nil || at != place || e != want {
		t.Errorf("Compile(%.99q) = %v, %d, %d; want the place %d and %d", p, c, at, e, place, want)
	}
}

func TestFaultsByHand(t *testing.T) {
	for _, c := range []struct {
		pattern string
		place   int
	}{
		{`ab\`, 2}, {"a[b", 1}, {"[z-a]", 1}, {"a**", 2}, {`\<*`, 2},
		{`\`, 0}, {`\\\`, 2}, {`a*\`, 2}, {`^\`, 1}, {`\<\`, 2},
		{"[", 0}, {"[]", 0}, {"[^", 0}, {"[^]", 0}, {"[a", 0}, {"a[^b", 1}, {"[]a", 0}, {"[a-", 0}, {"[a-b", 0}, {`[\`, 0}, {`\[[`, 2}, {"[a][b", 3}, {"[[", 0}, {"[$", 0}, {"^[", 1},
		{"[b-a]", 1}, {"[^b-a]", 2}, {"x[ab-a]", 3}, {"[a-cz-b]", 4}, {"[]-[]", 1}, {"[\xff-\x00]", 1}, {"[9--]", 1}, {"[a--]", 1}, {`[]-\]`, 1}, {`[^]-\]`, 2},
		{"a***", 2}, {"***", 2}, {"^***", 3}, {".**", 2}, {"[a]**", 4}, {`\***`, 3}, {`\>*`, 2}, {`a\<*`, 3}, {`^\<*`, 3}, {"a*b**", 4}, {"$**", 2}, {"a^**", 3},
		// Of several the one with the least place, whatever is found last or first.
		{"[z-a", 0}, {"[z-ay-b]", 1}, {`a**\`, 2}, {"a**[", 2}, {"[b-a]**", 1}, {"[b-a][", 1}, {`[b-a]\<*`, 1}, {"a**[b-a]", 2}, {"x[z-a", 1}, {`\<*[b-a]\`, 2}, {"[a][b-a", 3},
	} {
		holdFault(t, c.pattern, c.place, api.ErrPattern)
	}
}

func TestLengths(t *testing.T) {
	holdFault(t, strings.Repeat("a", 257), 0, api.ErrLong)
	// What is too long is told ahead of any fault, and so of any length.
	holdFault(t, strings.Repeat("*", 257), 0, api.ErrLong)
	holdFault(t, "aa"+strings.Repeat("[", 300), 0, api.ErrLong)
	holdFault(t, strings.Repeat(`\`, 1<<20+1), 0, api.ErrLong)
	holdFault(t, strings.Repeat("a", 254)+"**", 255, api.ErrPattern)
	holdFault(t, strings.Repeat("a", 255)+`\`, 255, api.ErrPattern)
	holdFault(t, strings.Repeat("a", 255)+"[", 255, api.ErrPattern)
	holdFault(t, "["+strings.Repeat("a", 255), 0, api.ErrPattern)
	holdFault(t, strings.Repeat(`\`, 255), 254, api.ErrPattern)
	for _, n := range []int{0, 1, 2, 255, 256} {
		a := strings.Repeat("a", n)
		holdFinds(t, []try{{a, "b" + a + "b", 1, 1, 1 + n}, {a, a, 0, 0, n}})
		if n > 0 {
			holdFinds(t, []try{{a, a[1:], 0, nowhere, 0}})
		}
	}
	holdFinds(t, []try{
		{strings.Repeat(`\.`, 128), strings.Repeat(".", 128), 0, 0, 128},
		{strings.Repeat("a*", 128), strings.Repeat("a", 1000), 0, 0, 1000},
		{"[^" + strings.Repeat("a", 253) + "]", "ab", 0, 1, 2},
		{"^" + strings.Repeat("a", 254) + "$", strings.Repeat("a", 254), 0, 0, 254},
	})
}

func TestFormByHand(t *testing.T) {
	holdFinds(t, []try{
		// ^ first and $ last; anywhere else they stand for themselves.
		{"^", "ab", 0, 0, 0}, {"^", "ab", 1, nowhere, 0}, {"$", "ab", 0, 2, 2}, {"$", "", 0, 0, 0}, {"^$", "", 0, 0, 0}, {"^$", "a", 0, nowhere, 0}, {"$", "$", 0, 1, 1}, {"^", "^", 0, 0, 0},
		{"^^", "^", 0, 0, 1}, {"^^", "a^", 0, nowhere, 0}, {"$$", "a$", 0, 1, 2}, {"$$", "$a", 0, nowhere, 0}, {"$^", "a$^", 0, 1, 3}, {"a^", "aa^", 0, 1, 3}, {"$a", "a$a", 0, 1, 3}, {"^$^", "$^", 0, 0, 2}, {"$^$", "$^", 0, 0, 2},
		{"^$a", "$a", 0, 0, 2}, {"a^$", "a^", 0, 0, 2}, {"^ab$", "ab", 0, 0, 2}, {"^ab$", "aab", 0, nowhere, 0}, {"^ab$", "abb", 0, nowhere, 0},
		// What began ahead of a last $ keeps it.
		{`\$`, "a$", 0, 1, 2}, {`\$`, "a", 0, nowhere, 0}, {`\\$`, `a\`, 0, 1, 2}, {`\\$`, `\a`, 0, nowhere, 0}, {`\\\$`, `\$a`, 0, 0, 2}, {"[$]", "$a", 0, 0, 1}, {"[a]$", "ab", 0, nowhere, 0}, {"[a]$", "ba", 0, 1, 2}, {`\<$`, "a", 0, nowhere, 0}, {`\>$`, "a", 0, 1, 1}, {`\^`, "a^", 0, 1, 2}, {`\^a`, "^a", 0, 0, 2},
		// A star with nothing ahead of it, or ^ alone, stands for itself: so it can be repeated.
		{"*", "a*", 0, 1, 2}, {"**", "a***", 1, 1, 4}, {"**", "a***", 0, 0, 0}, {"^*", "a*", 0, nowhere, 0}, {"^**", "**a", 0, 0, 2}, {"^**", "a", 0, 0, 0}, {"*$", "**", 0, 1, 2}, {"**$", "a**", 1, 1, 3}, {"*a*", "*aa", 0, 0, 3}, {`\*`, "a*", 0, 1, 2}, {`\**`, "***", 0, 0, 3}, {`^\*`, "*", 0, 0, 1},
		// ^ and $ in the middle are repeated as any other byte.
		{"a^*", "a^^", 0, 0, 3}, {"a^*", "a", 0, 0, 1}, {"$*", "$$a", 0, 0, 2}, {"a$*", "a$$", 0, 0, 3}, {"a$*", "ab", 0, 0, 1}, {"^^*", "^^", 0, 0, 2}, {"a*$", "baa", 0, 1, 3}, {"$*$", "a$$", 0, 1, 3},
		// Behind a \ each byte but < and > is itself.
		{`\a`, "ba", 0, 1, 2}, {`\.`, "a.", 0, 1, 2}, {`\\`, `a\`, 0, 1, 2}, {`\[a]`, "x[a]", 0, 1, 4}, {`\]`, "]", 0, 0, 1}, {`\n`, "\nn", 0, 1, 2}, {`\` + "\n", "n\n", 0, 1, 2}, {`\\<`, `\<`, 0, 0, 2}, {`<\\`, `<\`, 0, 0, 2}, {"<a>", "<a>", 0, 0, 3}, {`\(a\)`, "(a)", 0, 0, 3}, {`\{a\}`, "{a}", 0, 0, 3}, {"a+b?|(c)", "a+b?|(c)", 0, 0, 8},
		{"]", "a]", 0, 1, 2}, {"a]*", "a]]", 0, 0, 3}, {"-", "a-", 0, 1, 2},
		// Any byte is any: the line end and 0 too.
		{".", "\n", 0, 0, 1}, {".", "\x00", 0, 0, 1}, {".", "\xff", 0, 0, 1}, {".*", "a\n\x00\xff", 0, 0, 4}, {".", "", 0, nowhere, 0}, {"a.", "a", 0, nowhere, 0},
	})
}

func TestSetsByHand(t *testing.T) {
	holdFinds(t, []try{
		{"[abc]", "xc", 0, 1, 2}, {"[abc]", "xd", 0, nowhere, 0}, {"[a-c]*", "abcd", 0, 0, 3}, {"[^abc]", "abcd", 0, 3, 4}, {"[^a-c]*", "dea", 0, 0, 2}, {"[a]b", "ab", 0, 0, 2}, {"[b-b]*", "bbc", 0, 0, 2}, {"[a-cx-z]*", "axczd", 0, 0, 4}, {"[a][b]", "ab", 0, 0, 2},
		// ] is an item as the first one alone.
		{"[]]", "a]", 0, 1, 2}, {"[]a]*", "a]a", 0, 0, 3}, {"[^]]", "]a", 0, 1, 2}, {"[^]a]", "]ab", 0, 2, 3}, {"[a]]", "aa]", 0, 1, 3}, {"[]]]", "a]]", 0, 1, 3}, {"[^]]]", "]a]", 0, 1, 3},
		{"[]-a]*", "]^_`ab", 0, 0, 5}, {"[]-a]", "-", 0, nowhere, 0}, {"[]-]", "a-", 0, 1, 2}, {"[^]-]", "-]a", 0, 2, 3}, {"[^]-a]", "]`ab", 0, 3, 4}, {"[a]-z]", "a-z]", 0, 0, 4},
		// ^ is an item anywhere but first.
		{"[a^]*", "^a^", 0, 0, 3}, {"[^^]", "^a", 0, 1, 2}, {"[^^a]", "^ab", 0, 2, 3}, {"[^-a]", "-ab", 0, 2, 3}, {"x[^^-a]", "x]", 0, 0, 2}, {"x[^^-a]", "x`", 0, nowhere, 0}, {"[X-^]*", "X[^", 0, 0, 3},
		// - is an item where no range can be read, and may be either end of one.
		{"[a-]*", "-a-b", 0, 0, 3}, {"[-a]*", "-a-b", 0, 0, 3}, {"[-]", "a-", 0, 1, 2}, {"[--]", "a-", 0, 1, 2}, {"[---]", ",-.", 0, 1, 2}, {"[--/]*", "-./,", 0, 0, 3}, {"[+--]*", "+,-.", 0, 0, 3}, {"[+--/]*", "+,-/.", 0, 0, 4}, {"[a-c-e]*", "b-eacd", 0, 0, 5}, {"[a-c-]*", "b-d", 0, 0, 2}, {"[^a-]", "-ab", 0, 2, 3}, {"[^--/]", "-./,", 0, 3, 4}, {"[----]", ".-", 0, 1, 2},
		// So is \, which makes nothing of the byte behind it.
		{`[\]`, `a\`, 0, 1, 2}, {`[\]]`, `]\]`, 0, 1, 3}, {`[\n]*`, `\nn` + "\n", 0, 0, 3}, {`[\-a]*`, `\]a-`, 0, 0, 3}, {`[\<]*`, `<\<a`, 0, 0, 3}, {`[a\]*`, `a\a`, 0, 0, 3},
		// And so is all that means something elsewhere.
		{"[.]", "a.", 0, 1, 2}, {"[*]*", "**a", 0, 0, 2}, {"[$^]*", "^$a", 0, 0, 2}, {"[[]", "a[", 0, 1, 2}, {"[[a]*", "[a]", 0, 0, 2}, {"[[:a:]]", ":]", 0, 0, 2}, {"[]-a][]-]", "^-", 0, 0, 2},
		// A range may hold all bytes: then there is nothing left.
		{"[\x00-\xff]*", "\x00a\n\xff", 0, 0, 4}, {"[^\x00-\xff]", "\x00a\n\xff", 0, nowhere, 0}, {"[^\x00-\xff]*", "a", 0, 0, 0}, {"[\xfe-\xff]*", "\xfe\xff\x00", 0, 0, 2}, {"[\x00-\x01]*", "\x01\x00\x02", 0, 0, 2}, {"[?-@]*", "?@A", 0, 0, 2}, {"[\x7f-\x80]*", "\x80\x7f\x81", 0, 0, 2},
	})
}

func TestWordsByHand(t *testing.T) {
	holdFinds(t, []try{
		{`\<`, "ab cd", 0, 0, 0}, {`\<`, "ab cd", 1, 3, 3}, {`\<`, "ab cd", 4, nowhere, 0}, {`\>`, "ab cd", 0, 2, 2}, {`\>`, "ab cd", 2, 2, 2}, {`\>`, "ab cd", 3, 5, 5}, {`\>`, " ab cd", 0, 3, 3},
		{`\<a`, "_a a", 0, 3, 4}, {`\<a`, "0a a", 0, 3, 4}, {`\<b`, "\xffb b", 0, 3, 4}, {`\<b`, "\x80b \x7fb", 0, 4, 5}, {`a\>`, "a_ a9 aZ a", 0, 9, 10}, {`a\>`, "a\x80 a.", 0, 3, 4},
		// Words are told by their letters, not by the blanks about them.
		{`\<`, "a.b", 1, 2, 2}, {`\>`, "a.b", 0, 1, 1}, {`\<`, ".,", 0, nowhere, 0}, {`\>`, ".,", 0, nowhere, 0}, {`\<`, "", 0, nowhere, 0}, {`\>`, "", 0, nowhere, 0}, {`\<.`, ".a", 0, 1, 2}, {`\<.\>`, "ab c d", 0, 3, 4},
		{`\<\>`, "a b", 0, nowhere, 0}, {`\>\<`, "a b", 0, nowhere, 0}, {`\<\<a`, "a", 0, 0, 1}, {`a\>\>`, "a", 0, 0, 1}, {`\<a*\>`, "aab aa", 0, 4, 6}, {`a\<b`, "ab", 0, nowhere, 0}, {`a\>b`, "ab", 0, nowhere, 0}, {`a\> \<b`, "a b", 0, 0, 3}, {`^\<a`, "a", 0, 0, 1}, {`a\>$`, "a a", 0, 2, 3},
		// What stands ahead of from is looked at.
		{`\<b`, "ab", 1, nowhere, 0}, {`\<b`, "a b", 2, 2, 3}, {`\>`, "ab ", 2, 2, 2}, {`\> `, "ab ", 2, 2, 3}, {"^b", "ab", 1, nowhere, 0}, {"^", "ab", 2, nowhere, 0}, {"$", "ab", 2, 2, 2},
		// A line may hold line ends; its own ends are all that counts.
		{`\<b`, "a\nb", 0, 2, 3}, {`a\>`, "a\nb", 0, 0, 1}, {"$", "a\nb", 0, 3, 3}, {"^b", "a\nb", 0, nowhere, 0}, {"a$", "a\n", 0, nowhere, 0}, {"a.b", "a\nb", 0, 0, 3}, {"[^x]*", "a\nb", 0, 0, 3},
	})
}

func TestLeastAndLongestByHand(t *testing.T) {
	holdFinds(t, []try{
		// The least a goes ahead of the greatest b.
		{"ab*", "aabbb", 0, 0, 1}, {"b*", "abb", 0, 0, 0}, {"b*", "abb", 1, 1, 3}, {"b*c*", "acbbcc", 1, 1, 2}, {"b*c*", "acbbcc", 2, 2, 6},
		{"a*ab", "aaab", 0, 0, 4}, {".*a", "babc", 0, 0, 2}, {"x.*y.*z", "xyzyzx", 0, 0, 5}, {"[ab]*b", "aababx", 0, 0, 5}, {"a*b*a*", "aabbaac", 0, 0, 6}, {"a*aaa", "aaaa", 0, 0, 4}, {"a*aaa", "aa", 0, nowhere, 0},
		// What begins first may come to nothing.
		{"ab*c", "abbbac", 0, 4, 6}, {"aab", "aaaab", 0, 2, 5}, {"abac", "ababac", 0, 2, 6}, {"a.c", "abbabc", 0, 3, 6}, {"a.*b$", "abca", 0, nowhere, 0}, {"a.b", "aacaab", 0, 3, 6},
		{"a.*a", "a", 0, nowhere, 0}, {"a.*a", "aa", 0, 0, 2}, {"a.*", "ba", 0, 1, 2}, {".*", "", 0, 0, 0}, {".*$", "ab", 1, 1, 2}, {".*", "ab", 2, 2, 2}, {"a", "ab", 1, nowhere, 0}, {"b", "ab", 2, nowhere, 0},
	})
}

func TestAllByHand(t *testing.T) {
	for _, c := range []struct {
		pattern, line string
		all           [][2]int
	}{
		{"a", "banana", [][2]int{{1, 2}, {3, 4}, {5, 6}}}, {"aa", "aaaaa", [][2]int{{0, 2}, {2, 4}}}, {"x", "ab", nil}, {"x", "", nil}, {"ana", "banana", [][2]int{{1, 4}}},
		{"", "ab", [][2]int{{0, 0}, {1, 1}, {2, 2}}}, {"", "", [][2]int{{0, 0}}}, {"^", "aa", [][2]int{{0, 0}}}, {"$", "aa", [][2]int{{2, 2}}}, {"^a", "aaa", [][2]int{{0, 1}}}, {"^a*", "aaba", [][2]int{{0, 2}}}, {"a$", "aaa", [][2]int{{2, 3}}},
		{`\<`, "ab cd", [][2]int{{0, 0}, {3, 3}}}, {`\>`, "ab cd", [][2]int{{2, 2}, {5, 5}}}, {`\<a*`, "aa aa", [][2]int{{0, 2}, {3, 5}}}, {`\<a`, "aaa a", [][2]int{{0, 1}, {4, 5}}},
		{".*", "ab", [][2]int{{0, 2}, {2, 2}}}, {"b*", "abbab", [][2]int{{0, 0}, {1, 3}, {3, 3}, {4, 5}, {5, 5}}}, {"a*$", "baa", [][2]int{{1, 3}, {3, 3}}}, {"[^b]*", "aabab", [][2]int{{0, 2}, {2, 2}, {3, 4}, {4, 4}, {5, 5}}}, {".", "a\nb", [][2]int{{0, 1}, {1, 2}, {2, 3}}},
	} {
		if all := compiled(t, c.pattern).All([]byte(c.line)); !slices.Equal(all, c.all) {
			t.Errorf("All of %q in %q: %v; want %v", c.pattern, c.line, all, c.all)
		}
	}
}

func TestQuoteByHand(t *testing.T) {
	for _, c := range [][2]string{
		{"", ""}, {"abc", "abc"}, {"a.b", `a\.b`}, {`\.*[]^$`, `\\\.\*\[\]\^\$`}, {`\<a\>`, `\\<a\\>`}, {"<>-(){}+?|/&~", "<>-(){}+?|/&~"}, {"^", `\^`}, {"$", `\$`}, {"\n\x00\xff", "\n\x00\xff"},
	} {
		if q := pattern.Quote([]byte(c[0])); string(q) != c[1] {
			t.Errorf("Quote(%q) = %q; want %q", c[0], q, c[1])
		}
	}
	if q := pattern.Quote(nil); len(q) != 0 {
		t.Errorf("Quote(nil) = %q", q)
	}
}

func TestNothing(t *testing.T) {
	var none *pattern.Pattern
	for _, line := range []string{"", "a"} {
		for _, from := range []int{0, 1, -1, math.MinInt, math.MaxInt} {
			if m := find(none, []byte(line), from); m != (match{}) {
				t.Errorf("nil in %q from %d: %v", line, from, m)
			}
		}
		if all := none.All([]byte(line)); len(all) != 0 {
			t.Errorf("all of nil in %q: %v", line, all)
		}
	}
	c, at, e := pattern.Compile(nil)
	if c == nil || at != 0 || e != api.OK {
		t.Fatalf("Compile(nil) = %v, %d, %d", c, at, e)
	}
	if m := find(c, nil, 0); m != (match{0, 0, true}) {
		t.Errorf("nothing in nil: %v", m)
	}
	if all := c.All(nil); !slices.Equal(all, [][2]int{{0, 0}}) {
		t.Errorf("all of nothing in nil: %v", all)
	}
	for _, from := range []int{-1, 1, math.MinInt, math.MaxInt} {
		if m := find(c, nil, from); m != (match{}) {
			t.Errorf("nothing in nil from %d: %v", from, m)
		}
	}
}

func placesOf(length int) []int {
	list := []int{math.MinInt, math.MaxInt}
	for at := -2; at <= length+2; at++ {
		list = append(list, at)
	}
	return list
}

// held: P11.1, P11.3 and P11.4. It answers how many matches All told.
func held(t *testing.T, p string, lines ...string) int {
	c, at, e := pattern.Compile([]byte(p))
	parts, place, told := wordCompile(p)
	if at != place || e != told || (c == nil) != (told != api.OK) {
		t.Fatalf("Compile(%.99q) = %v, %d, %d; want the place %d and %d", p, c, at, e, place, told)
	}
	if c == nil {
		return 0
	}
	count := 0
	for _, line := range lines {
		first := firstMatches(parts, []byte(line))
		heldFinds(t, p, c, []byte(line), first)
		all := c.All([]byte(line))
		if want := wordAll(first); !slices.Equal(all, want) {
			t.Fatalf("All of %.99q in %.99q: %v; want %v", p, line, all, want)
		}
		if !rise(all) || len(all) > len(line)+1 {
			t.Fatalf("All of %.99q in %.99q: %v", p, line, all)
		}
		count += len(all)
	}
	return count
}

func heldFinds(t *testing.T, p string, c *pattern.Pattern, line []byte, first []match) {
	for _, from := range placesOf(len(line)) {
		m := find(c, line, from)
		if want := wordFind(first, from); m != want {
			t.Fatalf("%.99q in %.99q from %d: %v; want %v", p, line, from, m, want)
		}
		if !m.ok {
			continue
		}
		for f := from; f <= m.a; f++ {
			if other := find(c, line, f); other != m {
				t.Fatalf("%.99q in %.99q from %d: %v; from %d: %v", p, line, from, m, f, other)
			}
		}
	}
}

func rise(all [][2]int) bool {
	for i, m := range all {
		if m[1] < m[0] {
			return false
		}
		if i == 0 {
			continue
		}
		ahead := all[i-1]
		if m[0] < ahead[1] || ahead[0] == ahead[1] && m[0] == ahead[1] {
			return false
		}
	}
	return true
}

// eachText calls do with every text of these bytes up to this length.
func eachText(alphabet string, length int, do func(text []byte)) {
	text := make([]byte, 0, length)
	var grow func()
	grow = func() {
		do(text)
		if len(text) == length {
			return
		}
		for i := 0; i < len(alphabet); i++ {
			text = append(text, alphabet[i])
			grow()
			text = text[:len(text)-1]
		}
	}
	grow()
}

func TestEveryShortPattern(t *testing.T) {
	matches := 0
	hold := func(lines ...string) func(p []byte) {
		return func(p []byte) { matches += held(t, string(p), lines...) }
	}
	eachText(`a*.^$[]-\<`, 4, hold("", "a", "ba a", "^a$*", `[]-\<.`))
	eachText(`a.*b`, 6, hold("ab", "babaa"))
	eachText(`[]^-a`, 7, hold("]a-^"))
	eachText(`\<>a*$`, 5, hold("a a", `\<a>*`))
	eachText(`^*$`, 7, hold("", "*", "^*$*"))
	if matches < 12000 {
		t.Errorf("only %d matches were held", matches)
	}
}

func TestEveryShortLine(t *testing.T) {
	matches := 0
	for _, p := range []string{"", "a", "a*", "a*b", "ab*", "a*ab*", ".*a", "a.*b", "a.b", "[^a]*", "^a*", "a*$", "^a*$", "aba", "a*.a*", "b*a*b", `\<a`, `a\>`, `\<`, `\>`, `\<.*\>`, `\<a*\>`, `.\<.`, `a*b*a*`, "aa*", "a[ab]*a"} {
		hold := func(line []byte) { matches += held(t, p, string(line)) }
		eachText("ab", 7, hold)
		eachText("a. b", 4, hold)
		eachText("a_\n\x80\x00", 3, hold)
	}
	if matches < 25000 {
		t.Errorf("only %d matches were held", matches)
	}
}

// Each byte in each part of a pattern, against every byte of a line.
func TestEveryByte(t *testing.T) {
	line := make([]byte, 256)
	for b := range line {
		line[b] = byte(b)
	}
	for b := range 256 {
		one := string([]byte{byte(b)})
		for _, p := range []string{one, one + "*", "a" + one, "a" + one + "a", "a" + one + "*", "^" + one, `\` + one, "[" + one + "]", "[^" + one + "]", "[" + one + "-", "[a" + one, "[" + one + "-" + one + "]", "[A-" + one + "]", "[" + one + "-z]", `\<` + one, one + `\>`} {
			held(t, p, "", one, "a"+one+"a", one+one, " "+one+" ")
		}
	}
	for b := range 256 {
		one := string([]byte{byte(b)})
		for _, p := range []string{"[" + one + "]", "[^" + one + "b]", "[" + one + "-\xff]", "[\x00-" + one + "]", `\` + one} {
			holdEveryByte(t, p, line)
		}
	}
}

// holdEveryByte: just those bytes are found, each as a line of its own, that the pattern's one part allows.
func holdEveryByte(t *testing.T, p string, line []byte) {
	parts, _, _ := wordCompile(p)
	if len(parts) != 1 || parts[0].mark != '1' {
		held(t, p)
		return
	}
	c := compiled(t, p)
	for b := range line {
		if _, _, ok := c.Find(line[b:b+1], 0); ok != parts[0].allows[b] {
			t.Fatalf("%q finds the byte %d: %v", p, b, ok)
		}
	}
}

// A picker is a plain row of numbers, the same in every run.
type picker uint64

func (p *picker) below(n int) int {
	*p = *p*6364136223846793005 + 1442695040888963407
	return int(uint64(*p)>>33) % n
}

func (p *picker) of(alphabet string, length int) string {
	text := make([]byte, length)
	for i := range text {
		text[i] = alphabet[p.below(len(alphabet))]
	}
	return string(text)
}

// pattern is most often one without a fault.
func (p *picker) pattern(parts int) string {
	var b strings.Builder
	for range parts {
		single := true
		switch p.below(9) {
		case 0:
			b.WriteByte('.')
		case 1:
			b.WriteString([]string{"[ab]", "[^b]", "[a-c ]", "[]a-]", "[^]-]", "[_a]", "[^a-b]"}[p.below(7)])
		case 2:
			b.WriteString([]string{`\.`, `\*`, `\]`, `\a`, `\$`}[p.below(5)])
		case 3:
			b.WriteString([]string{`\<`, `\>`}[p.below(2)])
			single = false
		case 4:
			b.WriteByte(p.of("^$-] ", 1)[0])
		default:
			b.WriteByte(p.of("abc", 1)[0])
		}
		if single && p.below(2) == 0 {
			b.WriteByte('*')
		}
	}
	if p.below(5) == 0 {
		b.WriteByte('$')
	}
	return b.String()
}

func TestPickedPatterns(t *testing.T) {
	p := picker(11)
	matches, sound := 0, 0
	for range 6000 {
		one := p.pattern(p.below(12))
		if _, _, e := pattern.Compile([]byte(one)); e == api.OK {
			sound++
		}
		matches += held(t, one, p.of("ab", p.below(20)), p.of("ab c]-.", p.below(20)), p.of("a^$*_\xe4 ", p.below(10)))
		// One byte changed makes faults.
		if wrong := []byte(one); len(wrong) > 0 {
			wrong[p.below(len(wrong))] = p.of(`*[]\^-$<>a`, 1)[0]
			held(t, string(wrong), p.of("ab ^*", p.below(10)))
		}
		held(t, p.of(`a*[]\^-$<>.b`, p.below(14)), p.of("ab-^*", p.below(10)))
	}
	if matches < 12000 || sound < 4000 {
		t.Errorf("only %d matches of %d patterns were held", matches, sound)
	}
}

// heldQuoted: P11.2. It answers how many matches were held.
func heldQuoted(t *testing.T, s []byte, lines ...string) int {
	q := pattern.Quote(s)
	if !bytes.Equal(q, wordQuote(s)) {
		t.Fatalf("Quote(%.99q) = %.99q", s, q)
	}
	c, at, e := pattern.Compile(q)
	if len(q) > 256 {
		if c != nil || at != 0 || e != api.ErrLong {
			t.Fatalf("%.99q quoted, of %d bytes: %d, %d", s, len(q), at, e)
		}
		return 0
	}
	if c == nil || at != 0 || e != api.OK {
		t.Fatalf("%.99q quoted: %d, %d", s, at, e)
	}
	count := 0
	for _, line := range lines {
		for from := 0; from <= len(line); from++ {
			want := match{}
			if i := strings.Index(line[from:], string(s)); i >= 0 {
				want = match{from + i, from + i + len(s), true}
				count++
			}
			if m := find(c, []byte(line), from); m != want {
				t.Fatalf("%.99q quoted in %.99q from %d: %v; want %v", s, line, from, m, want)
			}
		}
	}
	return count
}

func TestQuoted(t *testing.T) {
	count := 0
	hold := func(s []byte) {
		one := string(s)
		count += heldQuoted(t, s, one, one+one, "x"+one+"a"+one, string(wordQuote(s)), "a.b*c[d]^$", strings.TrimPrefix(one, "a")+one)
	}
	eachText(`\.*[]^$a`, 4, hold)
	eachText("<>-a ", 4, hold)
	eachText("\\<>\n\xff\x00", 4, hold)
	for b := range 256 {
		hold([]byte{byte(b)})
		hold([]byte{'a', byte(b)})
		hold([]byte{byte(b), 'a'})
		hold([]byte{'\\', byte(b)})
		hold([]byte{'[', byte(b), ']'})
	}
	p := picker(112)
	for range 300 {
		hold([]byte(p.of(`\.*[]^$<>ab-`, p.below(40))))
	}
	if count < 100000 {
		t.Errorf("only %d matches were held", count)
	}
}

func TestQuotedAtTheLimit(t *testing.T) {
	for _, s := range []string{strings.Repeat("a", 256), strings.Repeat("a", 257), strings.Repeat(".", 128), strings.Repeat(".", 129), strings.Repeat("^", 127) + "aa", strings.Repeat("^", 127) + "aaa", strings.Repeat(`\`, 128), strings.Repeat("*a", 85) + "b", strings.Repeat("*a", 86), strings.Repeat("[", 70000)} {
		heldQuoted(t, []byte(s), s[:min(len(s), 300)], "x"+s[:min(len(s), 300)])
	}
}

// asRegexp is the same pattern for the library's package regexp, as far as lines of bytes below 128 go; it knows no word's beginning and end.
func asRegexp(parts []part) *regexp.Regexp {
	var b strings.Builder
	b.WriteString("(?s)")
	for _, p := range parts {
		switch p.mark {
		case '^':
			b.WriteString(`\A`)
		case '$':
			b.WriteString(`\z`)
		default:
			b.WriteString(`[\x{100}`)
			for c := range 128 {
				if p.allows[c] {
					b.WriteString(`\x` + string("0123456789abcdef"[c/16]) + string("0123456789abcdef"[c%16]))
				}
			}
			b.WriteString("]")
			if p.mark == '*' {
				b.WriteString("*")
			}
		}
	}
	re := regexp.MustCompile(b.String())
	re.Longest()
	return re
}

func holdRegexp(t *testing.T, p, line string) bool {
	parts, _, e := wordCompile(p)
	if e != api.OK || slices.ContainsFunc(parts, func(p part) bool { return p.mark == '<' || p.mark == '>' }) {
		return false
	}
	want := match{}
	if place := asRegexp(parts).FindStringIndex(line); place != nil {
		want = match{place[0], place[1], true}
	}
	if m := find(compiled(t, p), []byte(line), 0); m != want {
		t.Errorf("%.99q in %.99q: %v; want %v", p, line, m, want)
	}
	return true
}

// Lines longer than any text, where each place tried by itself would never end.
func TestGreatLines(t *testing.T) {
	const great = 70000
	as := strings.Repeat("a", great)
	mixed := picker(113)
	abs := mixed.of("aab", great)
	count := 0
	for _, p := range []string{"a*a*a*b", strings.Repeat("a*", 12) + "b", "a*a*a*", "aaaaaaaaaab", "a.*b", ".*.*.*b", "bb*a*bbbb*", "b.*bbbbbbbbbbbbbbb.*a", "^a*$", "a$", "[^b]*b[^b]*$", "bbbbbbbbbbbbbbbbbbbbbbbb"} {
		for _, line := range []string{as, as + "b", "b" + as, abs, as + "c" + as + "b"} {
			if holdRegexp(t, p, line) {
				count++
			}
		}
	}
	for range 20 {
		if holdRegexp(t, mixed.pattern(10), mixed.of("abc .", great)) {
			count++
		}
	}
	if count < 60 {
		t.Errorf("only %d were held", count)
	}
	holdFinds(t, []try{
		{`\<a*\>`, as, 0, 0, great}, {`a\>`, as, 0, great - 1, great}, {`\<b`, as + " b", 0, great + 1, great + 2}, {`\<a*\>`, as, 1, nowhere, 0}, {"a*", as, great, great, great}, {"a*", as, great + 1, nowhere, 0},
		{strings.Repeat("a*", 127) + "b", as, 0, nowhere, 0}, {strings.Repeat("a*", 127) + "b", as + "bb", 0, 0, great + 1}, {strings.Repeat("a", 255) + "b", as + "b", 0, great - 255, great + 1}, {strings.Repeat(".*", 128), as, 0, 0, great},
	})
}

// However many matches there are, a line is not gone through anew for each of them.
func TestAllOfGreatLines(t *testing.T) {
	const great = 70000
	as := strings.Repeat("a", great)
	for _, c := range []struct {
		pattern, line string
		count         int
		last          [2]int
	}{
		{"", as, great + 1, [2]int{great, great}}, {"a", as, great, [2]int{great - 1, great}}, {"b*", as, great + 1, [2]int{great, great}}, {"a*", as, 2, [2]int{great, great}}, {"a*b", as, 0, [2]int{}},
		{"a*b", strings.Repeat("ab", great/2), great / 2, [2]int{great - 2, great}}, {"ab*", strings.Repeat("ab", great/2), great / 2, [2]int{great - 2, great}}, {"a.*b", strings.Repeat("ab", great/2), 1, [2]int{0, great}}, {"ba*", "b" + as + "b", 2, [2]int{great + 1, great + 2}},
		{`\<a`, strings.Repeat("a ", great/2), great / 2, [2]int{great - 2, great - 1}}, {`\>`, strings.Repeat("a ", great/2), great / 2, [2]int{great - 1, great - 1}}, {"a.*b", "ab" + as, 1, [2]int{0, 2}}, {"a[^b]*", strings.Repeat("ab", great/2), great / 2, [2]int{great - 2, great - 1}},
		{strings.Repeat("a*", 128), strings.Repeat("ab", great/2), great/2*2 + 1, [2]int{great, great}},
		{strings.Repeat("b*", 127) + "a", as, great, [2]int{great - 1, great}},
	} {
		all := compiled(t, c.pattern).All([]byte(c.line))
		if len(all) != c.count || len(all) > 0 && all[len(all)-1] != c.last {
			t.Errorf("All of %.99q in %.99q: %d matches, the last %v; want %d, %v", c.pattern, c.line, len(all), all[max(0, len(all)-1):], c.count, c.last)
		}
		if !rise(all) {
			t.Errorf("All of %.99q in %.99q doesn't rise", c.pattern, c.line)
		}
	}
}

// roomy is a text with spare room behind it, and a copy of both.
func roomy(text string) (roomy, whole, before []byte) {
	whole = append([]byte(text), "spare room"...)
	return whole[:len(text)], whole, bytes.Clone(whole)
}

func TestArgumentsAreLeftAlone(t *testing.T) {
	for _, p := range []string{"a*.[b-d]$", "a", "", "[z-a]", `a\.\<`, "^*"} {
		text, whole, before := roomy(p)
		c, _, _ := pattern.Compile(text)
		line, wholeLine, beforeLine := roomy("aabcd.* a")
		for from := range len(line) + 2 {
			c.Find(line, from)
		}
		c.All(line)
		pattern.Quote(text)
		pattern.Quote(line)
		if !bytes.Equal(whole, before) || !bytes.Equal(wholeLine, beforeLine) {
			t.Errorf("%q: now %q and %q", p, whole, wholeLine)
		}
	}
}

// A pattern is none of the bytes that it was compiled of, and it keeps nothing of what it was asked.
func TestNothingIsKept(t *testing.T) {
	text := []byte(`a[b-d]*\.$`)
	c := compiled(t, string(text))
	kept, _, _ := pattern.Compile(text)
	for i := range text {
		text[i] = 'x'
	}
	line := []byte("xabcdb.")
	want := find(c, line, 0)
	if m := find(kept, line, 0); m != want || !m.ok {
		t.Errorf("behind a change of the text: %v; want %v", m, want)
	}
	all := kept.All([]byte("ab.ab."))
	kept.Find([]byte("zzz"), 1)
	if m := find(kept, line, 0); m != want {
		t.Errorf("behind other calls: %v; want %v", m, want)
	}
	all[0] = [2]int{7, 9}
	if again := kept.All([]byte("ab.ab.")); !slices.Equal(again, [][2]int{{3, 6}}) {
		t.Errorf("behind a change of the answer: %v", again)
	}
}

func TestAnswersAreNew(t *testing.T) {
	s := []byte("abc")
	q := pattern.Quote(s)
	q[0] = 'x'
	if string(s) != "abc" || string(pattern.Quote(s)) != "abc" {
		t.Errorf("a changed answer changes %q", s)
	}
	c := compiled(t, "a")
	line := []byte("aba")
	one, two := c.All(line), c.All(line)
	one[1] = [2]int{8, 8}
	_ = append(one[:1], [2]int{9, 9})
	if !slices.Equal(two, [][2]int{{0, 1}, {2, 3}}) {
		t.Errorf("a changed answer changes another one: %v", two)
	}
}

func TestManyAtOnce(t *testing.T) {
	c := compiled(t, "a*.b*")
	lines := []string{"aaxbb", "b", "", "xxxx", "abab"}
	want := make([]match, len(lines))
	for i, line := range lines {
		want[i] = find(c, []byte(line), 0)
	}
	got := make([]match, 40*len(lines))
	var all sync.WaitGroup
	for i := range got {
		all.Go(func() { got[i] = find(c, []byte(lines[i%len(lines)]), 0) })
	}
	all.Wait()
	for i, m := range got {
		if m != want[i%len(lines)] {
			t.Errorf("%q: %v; want %v", lines[i%len(lines)], m, want[i%len(lines)])
		}
	}
}
