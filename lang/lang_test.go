package lang_test

import (
	"math"
	"slices"
	"strings"
	"testing"

	"raddle/api"
	"raddle/lang"
)

// The calls are those of the chapter.
var (
	_ func([]api.Node, string, int) []int       = lang.Ends
	_ func([]api.Node, string) bool             = lang.Is
	_ func([]api.Node, string, int) (int, bool) = lang.Longest
)

// P7.1, P7.2: the chapter's examples.
func TestExamples(t *testing.T) {
	if got := ends(t, parsed(t, "a{1,2}"), "aaa", 0); !slices.Equal(got, []int{1, 2}) {
		t.Error("Ends:", got)
	}
	if n, ok := lang.Longest(parsed(t, "(ab)*"), "ababa", 0); n != 4 || !ok {
		t.Error("Longest:", n, ok)
	}
}

// P7.1: each kind of node, and several within each other.
func TestEnds(t *testing.T) {
	for _, x := range []struct {
		pattern, w string
		from       int
		want       []int
	}{
		// Empty.
		{"", "", 0, []int{0}}, {"", "ab", 0, []int{0}}, {"", "ab", 1, []int{1}}, {"", "ab", 2, []int{2}},
		// Bytes.
		{"a", "ab", 0, []int{1}}, {"a", "ab", 1, nil}, {"b", "ab", 1, []int{2}}, {"a", "ab", 2, nil}, {"a", "", 0, nil}, {"[a-z]", "ab", 1, []int{2}}, {"[^a]", "ab", 0, nil}, {"a", "A", 0, nil},
		{".", "a\nb", 0, []int{1}}, {".", "a\nb", 1, nil}, {".", "a\nb", 2, []int{3}}, {"\\n", "a\nb", 1, []int{2}},
		// Bytes that are no letters, and those above 127: a text is bytes, whatever letters they may be.
		{"\\x00", "\x00", 0, []int{1}}, {"\\xff", "\xff", 0, []int{1}}, {"[\\x80-\\xff]", "a\x80b", 1, []int{2}}, {"[\\x80-\\xff]+", "\x80\xc3\xa9\x7f", 0, []int{1, 2, 3}}, {"\\xe9", "\u00e9", 0, nil}, {"\\xc3\\xa9", "\u00e9", 0, []int{2}}, {".", "\u00e9", 0, []int{1}}, {"..", "\u00e9", 0, []int{2}}, {".*", "\u20ac", 0, []int{0, 1, 2, 3}}, {"[^a]*", "\x00\xff\n", 0, []int{0, 1, 2, 3}},
		// Cat.
		{"ab", "ab", 0, []int{2}}, {"ab", "ba", 0, nil}, {"ab", "a", 0, nil}, {"ab", "aab", 1, []int{3}}, {"abc", "abc", 0, []int{3}}, {"abc", "abd", 0, nil}, {"()()", "ab", 1, []int{1}}, {"a()", "ab", 0, []int{1}}, {"()a", "ab", 0, []int{1}}, {"(a|ab)(c|bcd)", "abcd", 0, []int{3, 4}}, {"a*a", "aaa", 0, []int{1, 2, 3}}, {"a?a?", "aaa", 0, []int{0, 1, 2}}, {"a*b*", "aabb", 0, []int{0, 1, 2, 3, 4}},
		// Alt.
		{"a|b", "ab", 0, []int{1}}, {"a|b", "ab", 1, []int{2}}, {"a|b", "c", 0, nil}, {"a|ab|abc", "abcd", 0, []int{1, 2, 3}}, {"abc|ab|a", "abcd", 0, []int{1, 2, 3}}, {"a|", "a", 0, []int{0, 1}}, {"|a", "a", 0, []int{0, 1}}, {"|", "a", 0, []int{0}}, {"a|[ab]|.", "a", 0, []int{1}}, {"c|b|a", "a", 0, []int{1}}, {"ab|b", "ab", 0, []int{2}},
		// Rep from 0.
		{"a*", "aab", 0, []int{0, 1, 2}}, {"a*", "aab", 1, []int{1, 2}}, {"a*", "aab", 2, []int{2}}, {"a*", "aab", 3, []int{3}}, {"a?", "aa", 0, []int{0, 1}}, {"a{0,2}", "aaa", 0, []int{0, 1, 2}}, {"a{0,2}", "b", 0, []int{0}}, {"a{0,}", "aaa", 0, []int{0, 1, 2, 3}},
		// Lo and Hi the same.
		{"a{1}", "aa", 0, []int{1}}, {"a{2}", "aaa", 0, []int{2}}, {"a{2}", "a", 0, nil}, {"a{3}", "aaab", 0, []int{3}}, {"(ab|a){2}", "abab", 0, []int{3, 4}}, {"(ab|a){2}", "aab", 0, []int{2, 3}}, {"(a|aa){2}", "aaaaa", 0, []int{2, 3, 4}},
		// Without an end.
		{"a+", "aab", 0, []int{1, 2}}, {"a+", "b", 0, nil}, {"a{2,}", "aaaa", 0, []int{2, 3, 4}}, {"a{2,}", "a", 0, nil}, {"(ab|a){2,}", "abaab", 0, []int{3, 4, 5}}, {"(ab)+", "ababa", 0, []int{2, 4}}, {"(a{2}){2,}", "aaaaaaa", 0, []int{4, 6}}, {"(aa|aaa)*", "aaaaa", 0, []int{0, 2, 3, 4, 5}},
		// Lo and Hi that are not the same.
		{"a{1,2}", "aaa", 1, []int{2, 3}}, {"a{1,3}", "ab", 0, []int{1}}, {"a{2,3}", "aaaa", 1, []int{3, 4}}, {"(ab){1,2}", "ababab", 0, []int{2, 4}}, {"(aa|aaa){1,2}", "aaaaaaaa", 0, []int{2, 3, 4, 5, 6}}, {"(a{3}|a{5}){2,3}", strings.Repeat("a", 20), 1, []int{7, 9, 10, 11, 12, 14, 16}},
		// A kid that may be nothing.
		{"()*", "a", 0, []int{0}}, {"()+", "a", 1, []int{1}}, {"(){3}", "a", 0, []int{0}}, {"(|a)+", "aa", 0, []int{0, 1, 2}}, {"(a?){3}", "aaaa", 0, []int{0, 1, 2, 3}}, {"(a?){2,3}", "aaaa", 0, []int{0, 1, 2, 3}}, {"(a*)*", "aab", 0, []int{0, 1, 2}}, {"(a*)*b", "aab", 0, []int{3}}, {"(a*b?){2}", "abab", 0, []int{0, 1, 2, 3, 4}}, {"(a*b?){2}", "ababab", 0, []int{0, 1, 2, 3, 4}}, {"(a*)+", "b", 0, []int{0}}, {"(a*){4096}", "aaa", 0, []int{0, 1, 2, 3}},
		// The greatest bounds.
		{"a{4096}", "aaaa", 0, nil}, {"a{4096,}", "aaaa", 0, nil}, {"a{0,4096}", "aaa", 0, []int{0, 1, 2, 3}}, {"a{1,4096}", "aaa", 0, []int{1, 2, 3}}, {"(){4096}", "aaa", 1, []int{1}}, {"(a?){4096}", "aaa", 0, []int{0, 1, 2, 3}}, {"(a{4096}){4096}", "a", 0, nil}, {"(a?){4096,}b", "aab", 0, []int{3}},
		// Where there is none.
		{"a", "a", -1, nil}, {"a", "a", 2, nil}, {"", "", 1, nil}, {"", "", -1, nil}, {"", "a", 2, nil}, {"a*", "aa", 3, nil}, {"a*", "aa", math.MaxInt, nil}, {"a*", "aa", math.MinInt, nil}, {"", "", math.MinInt, nil}, {"", "", math.MaxInt, nil},
	} {
		if got := ends(t, parsed(t, x.pattern), x.w, x.from); !slices.Equal(got, x.want) {
			t.Errorf("%q in %q from %d: %v, not %v", x.pattern, x.w, x.from, got, x.want)
		}
	}
}

// P7.1: each byte, and sets that have it or not.
func TestEachByte(t *testing.T) {
	for b := range 256 {
		w := "x" + string([]byte{byte(b)}) + "x"
		for name, x := range map[string]struct {
			n    api.Node
			want []int
		}{
			"that one":   {one(byte(b)), []int{2}},
			"the next":   {one(byte(b + 1)), nil},
			"all others": {bytes(func(c int) bool { return c != b }), nil},
			"all":        {bytes(func(int) bool { return true }), []int{2}},
			"these":      {bytes(func(c int) bool { return c <= b }), []int{2}},
		} {
			if got := ends(t, []api.Node{x.n}, w, 1); !slices.Equal(got, x.want) {
				t.Error(b, name, got)
			}
		}
	}
}

// P7.2: Is.
func TestIs(t *testing.T) {
	for _, x := range []struct {
		pattern, w string
		want       bool
	}{
		{"", "", true}, {"", "a", false}, {"a", "a", true}, {"a", "", false}, {"a", "aa", false}, {"a", "b", false}, {"a", "ab", false}, {"a", "ba", false},
		{"a*b?", "", true}, {"a*b?", "aab", true}, {"a*b?", "aba", false}, {"a*", "aaaa", true}, {"a*", "aaab", false}, {"a|ab", "ab", true}, {"ab|a", "a", true}, {"ab|a", "ab", true}, {"ab|a", "abb", false},
		{"a{3}", "aa", false}, {"a{3}", "aaa", true}, {"a{3}", "aaaa", false}, {"a{2,3}", "a", false}, {"a{2,3}", "aa", true}, {"a{2,3}", "aaaa", false},
		{"(a|b)*abb", "ababb", true}, {"(a|b)*abb", "ababba", false}, {"[\\x00-\\xff]{2}", "\u00e9", true}, {".", "\n", false},
		{"a{4096}", strings.Repeat("a", 4096), true}, {"a{4096}", strings.Repeat("a", 4095), false}, {"a{4096}", strings.Repeat("a", 4097), false},
		{"a{0,4096}", strings.Repeat("a", 4096), true}, {"a{0,4096}", strings.Repeat("a", 4097), false}, {"a{4096,}", strings.Repeat("a", 5000), true}, {"a{4095,4096}", strings.Repeat("a", 4094), false}, {"a{4095,4096}", strings.Repeat("a", 4095), true}, {"a{4095,4096}", strings.Repeat("a", 4097), false},
		{"(a?){4096}", strings.Repeat("a", 4096), true}, {"(a?){4096}", strings.Repeat("a", 4097), false},
	} {
		if got := lang.Is(parsed(t, x.pattern), x.w); got != x.want {
			t.Errorf("%q is %.20q of %d bytes: %t", x.pattern, x.w, len(x.w), got)
		}
	}
}

// P7.2: Longest.
func TestLongest(t *testing.T) {
	for _, x := range []struct {
		pattern, w string
		from       int
		want       int
		some       bool
	}{
		{"a*b?", "xaab", 1, 4, true}, {"a*b?", "xaab", 4, 0, false}, {"(ab)*", "ababa", 2, 4, true}, {"(ab)*", "ababa", 4, 0, false}, {"a|ab|abc", "abcd", 0, 3, true}, {"abc|ab|a", "abd", 0, 2, true}, {"a{1,3}", "aaaaa", 1, 4, true}, {"a", "ba", 1, 2, true},
		// The only end is from itself.
		{"a*b?", "xaab", 0, 0, false}, {"", "a", 0, 0, false}, {"", "a", 1, 0, false}, {"", "", 0, 0, false}, {"a*", "", 0, 0, false}, {"a*", "b", 0, 0, false}, {"a?", "ab", 1, 0, false}, {"(){3}", "ab", 1, 0, false}, {"(a|)b*", "ac", 1, 0, false},
		// There is no end.
		{"a", "b", 0, 0, false}, {"a", "a", 1, 0, false}, {"a+", "b", 0, 0, false}, {"a{2}", "ba", 1, 0, false},
		// Nor a place.
		{"a", "a", -1, 0, false}, {"a", "a", 2, 0, false}, {"a*", "aa", 3, 0, false}, {"a*", "aa", -1, 0, false}, {"", "", 1, 0, false}, {"", "", -1, 0, false}, {"a*", "aa", math.MaxInt, 0, false}, {"a*", "aa", math.MinInt, 0, false},
	} {
		l := parsed(t, x.pattern)
		ends(t, l, x.w, x.from)
		if got, some := lang.Longest(l, x.w, x.from); got != x.want || some != x.some {
			t.Errorf("%q in %q from %d: %d, %t", x.pattern, x.w, x.from, got, some)
		}
	}
}

// noTrees are nodes that are no tree.
func noTrees() [][]api.Node {
	a, b := one('a'), one('b')
	long := []api.Node{a}
	for len(long) < 1025 {
		long = append(long, rep(len(long)-1, 0, -1))
	}
	return [][]api.Node{
		nil, {}, {{}}, {{Op: 7}}, {{Op: 255}}, {{Op: 0, S: a.S}}, {{Op: api.Bytes}}, long,
		{a, b}, {empty(), empty()}, {a, b, a, cat(0, 1)}, {a, b, cat(0, 1), a}, {a, b, rep(0, 0, 1)},
		{a, b, cat(1, 0)}, {a, b, cat(0, 0)}, {a, cat(0, 0)}, {a, b, alt(0, 1, 1)}, {a, b, cat(0, 2)}, {a, b, cat(0, 3)}, {a, b, cat(-1, 0)},
		{cat(1, 2), a, b}, {empty(), cat(0)}, {empty(), alt(0)}, {cat()}, {alt()}, {rep(0, 0, 1)}, {a, rep(1, 0, 1)}, {{Op: api.Rep, Hi: 1}}, {a, b, {Op: api.Rep, L: []int{0, 1}, Hi: 1}},
		{a, b, cat(math.MinInt, math.MaxInt)}, {a, b, rep(0, 0, -1), cat(1, 2)},
		{a, rep(0, 0, 0)}, {a, rep(0, 2, 1)}, {a, rep(0, -1, 1)}, {a, rep(0, 0, -2)}, {a, rep(0, 0, 4097)}, {a, rep(0, 4097, -1)}, {a, rep(0, math.MaxInt, -1)}, {a, rep(0, math.MinInt, math.MaxInt)},
		{{Op: api.Empty, S: a.S}}, {{Op: api.Empty, Name: "n"}}, {{Op: api.Empty, L: []int{0}}}, {{Op: api.Bytes, S: a.S, Lo: 1}},
	}
}

// withNames are trees with a Ref, and what is no tree for its name.
func withNames() [][]api.Node {
	a := one('a')
	return [][]api.Node{
		{ref("d")}, {a, ref("d"), cat(0, 1)}, {ref("d"), a, cat(0, 1)}, {a, ref("d"), alt(0, 1)}, {empty(), ref("d"), alt(0, 1)}, {ref("d"), empty(), alt(0, 1)}, {ref("d"), rep(0, 0, -1)}, {ref("d"), rep(0, 0, 1), a, cat(1, 2)}, {a, ref("d"), rep(1, 0, 4096), alt(0, 2), rep(3, 0, 1)},
		{ref("")}, {ref("9")}, {ref("a-b")}, {ref(strings.Repeat("n", 33))}, {{Op: api.Ref, Name: "n", Hi: 1}},
	}
}

// P7.1, P7.2: of what is no tree, and of trees with names, there is nothing.
func TestWrong(t *testing.T) {
	for i, l := range append(noTrees(), withNames()...) {
		for _, w := range []string{"", "a", "aa", "ab", "d", "{d}"} {
			for _, from := range []int{0, 1, len(w), len(w) + 1, -1, math.MaxInt, math.MinInt} {
				if got := lang.Ends(l, w, from); len(got) > 0 {
					t.Errorf("%d in %q from %d: %v", i, w, from, got)
				}
				if n, some := lang.Longest(l, w, from); n != 0 || some {
					t.Errorf("%d in %q from %d: the longest is %d, %t", i, w, from, n, some)
				}
			}
			if lang.Is(l, w) {
				t.Errorf("%d is %q", i, w)
			}
		}
	}
}

// DOC.md, Rules 3: a list that is empty is as one that is nil.
func TestEmptyLists(t *testing.T) {
	l := []api.Node{empty(), one('a'), cat(0, 1)}
	l[0].L, l[1].L = []int{}, []int{}
	if got := ends(t, l, "aa", 1); !slices.Equal(got, []int{2}) {
		t.Error(got)
	}
}
