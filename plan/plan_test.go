package plan_test

import (
	"math"
	"slices"
	"strings"
	"testing"

	"raddle/api"
	"raddle/plan"
	"raddle/syntax"
)

// The calls are those of the chapter.
var (
	_ func([]api.Node, int) ([]api.Node, api.Errno) = plan.Tree
	_ func([]api.Node) bool                         = plan.Right
	_ func([]api.Node) int                          = plan.Counted
)

// noTrees are nodes that are no tree.
func noTrees() [][]api.Node {
	a, b := one('a'), one('b')
	return [][]api.Node{
		nil, {}, {{}}, {{Op: 7}}, {{Op: 255}}, {{Op: 0, S: a.S}}, {{Op: api.Bytes}}, nested(a, 1024, 0, -1), nested(a, 1024, 1, 1),
		{a, b}, {empty(), empty()}, {a, b, a, cat(0, 1)}, {a, b, cat(0, 1), a}, {a, b, rep(0, 0, -1)}, {a, b, rep(1, 2, 2)},
		{a, b, cat(1, 0)}, {a, b, cat(0, 0)}, {a, cat(0, 0)}, {a, b, alt(0, 1, 1)}, {a, b, cat(0, 2)}, {a, b, cat(0, 3)}, {a, b, cat(-1, 0)},
		{cat(1, 2), a, b}, {empty(), cat(0)}, {empty(), alt(0)}, {cat()}, {alt()}, {{Op: api.Rep, Hi: -1}}, {{Op: api.Rep, Lo: 1, Hi: 2}}, {a, {Op: api.Rep, L: []int{0, 0}, Lo: 2, Hi: 2}}, {a, b, {Op: api.Rep, L: []int{0, 1}, Hi: -1}},
		{rep(1, 0, -1), a}, {rep(0, 0, -1)}, {a, rep(1, 0, -1)}, {a, rep(1, 1, 2)}, {a, rep(2, 1, 2)}, {a, rep(-1, 1, 2)}, {a, rep(math.MinInt, 1, 2)}, {a, rep(math.MaxInt, 0, -1)}, {a, b, rep(0, 0, -1), cat(1, 2)},
		{a, rep(0, 0, 0)}, {a, rep(0, 2, 1)}, {a, rep(0, -1, -1)}, {a, rep(0, -1, 2)}, {a, rep(0, 0, -2)}, {a, rep(0, 1, 4097)}, {a, rep(0, 4097, 4097)}, {a, rep(0, 4097, -1)}, {a, rep(0, 1, math.MaxInt)}, {a, rep(0, math.MinInt, math.MinInt)},
		{{Op: api.Empty, S: a.S}}, {{Op: api.Empty, Name: "n"}}, {{Op: api.Empty, L: []int{0}}}, {{Op: api.Bytes, S: a.S, Lo: 1}}, {{Op: api.Bytes, S: a.S, Name: "n"}}, {a, {Op: api.Rep, L: []int{0}, Hi: -1, S: a.S}}, {a, {Op: api.Rep, L: []int{0}, Lo: 1, Hi: 2, Name: "n"}},
	}
}

// withRefs are trees with names.
func withRefs(t *testing.T) [][]api.Node {
	t.Helper()
	var trees [][]api.Node
	for _, s := range []string{"{x}", "{x}*", "{x}{2}", "a{x}", "{x}a", "a|{x}", "(a{2,5}|b)*{x}", "({x}a*){2}", "a*|(b|({x}))"} {
		trees = append(trees, parsed(t, s))
	}
	return append(trees, row(api.Cat, ref("x"), 1023), append(row(api.Cat, one('a'), 1000), rep(1000, 0, -1), ref("x"), cat(1001, 1002)))
}

// row is a tree of many leaves and one node of them all.
func row(op uint8, leaf api.Node, many int) []api.Node {
	var l []api.Node
	var kids []int
	for i := range many {
		l = append(l, leaf)
		kids = append(kids, i)
	}
	return append(l, api.Node{Op: op, L: kids})
}

// nested is a leaf and many repetitions of it, of the same bounds.
func nested(leaf api.Node, many, lo, hi int) []api.Node {
	l := []api.Node{leaf}
	for range many {
		l = append(l, rep(len(l)-1, lo, hi))
	}
	return l
}

// P8.1: Right and Counted, of stars, of what is counted, and of what is neither.
func TestRight(t *testing.T) {
	for pattern, want := range map[string]int{
		"": 0, "a": 0, "[^a]": 0, "ab|c": 0, "(a|)(b|c)": 0,
		// Stars, whatever their kid is.
		"a*": 0, "a{0,}": 0, "()*": 0, "(ab)*": 0, "(a|b)*": 0, "a**": 0, "((a|b)*c)*": 0, "(a{2})*": 1,
		// Counted.
		"a{2}": 1, "a{1,2}": 1, "[ab]{2,9}": 1, ".{4096}": 1, "a{1,4096}": 1, "a{4095,4096}": 1, "a{2}b{3}": 2, "a{2}|b{2}|c{1,2}|d": 3, "(a{9}|b)*": 1, "a{2}a*": 1, "|a{1,2}": 1, "(a{2}|(b{3}|(c{4})*)*)*": 3,
		// Lo 0.
		"a?": -1, "a{0,2}": -1, "a{0,4096}": -1, "(ab)?": -1, "()?": -1,
		// Hi 1.
		"a{1}": -1, "a{1,1}": -1, "(ab){1}": -1, "(a*){1}": -1,
		// Hi -1.
		"a+": -1, "a{1,}": -1, "a{2,}": -1, "a{4096,}": -1, "(ab)+": -1, "(a*)+": -1,
		// Its kid is not Bytes.
		"(){2}": -1, "(ab){2}": -1, "(a|b){1,2}": -1, "(a*){2}": -1, "a{2}{2}": -1, "a*{2,3}": -1, "(a{2}|b){3}": -1,
		// One of several is neither.
		"a*b{2}c+": -1, "a?b{2}": -1, "a{2}|b{1}": -1, "(a{2}|(bc){2})*": -1, "(a?)*": -1, "a{2}(b*(c{0,2}))": -1,
		// Refs.
		"{x}": -1, "{x}*": -1, "{x}{2}": -1, "a{2}{x}": -1, "{x}|a{2}": -1,
	} {
		l := parsed(t, pattern)
		holdRight(t, l)
		if right, many := plan.Right(l), plan.Counted(l); right != (want >= 0) || many != max(0, want) {
			t.Errorf("%q: %t, %d", pattern, right, many)
		}
	}
	for i, l := range slices.Concat(noTrees(), withRefs(t)) {
		if plan.Right(l) || plan.Counted(l) != 0 {
			t.Errorf("wrong ones, %d: %t, %d", i, plan.Right(l), plan.Counted(l))
		}
	}
}

// P8.1: many that are counted, and bounds of every size.
func TestManyCounted(t *testing.T) {
	var l []api.Node
	var kids []int
	for len(l) < 1022 {
		kids = append(kids, len(l)+1)
		l = append(l, one('a'), rep(len(l), 1, 2))
	}
	l = append(l, api.Node{Op: api.Alt, L: kids})
	if !plan.Right(l) || plan.Counted(l) != 511 {
		t.Error(plan.Right(l), plan.Counted(l))
	}
	l[1021].Lo = 0
	if plan.Right(l) || plan.Counted(l) != 0 {
		t.Error("the last one with Lo 0:", plan.Right(l), plan.Counted(l))
	}
	bounds := []int{math.MinInt, -2, -1, 0, 1, 2, 3, 4095, 4096, 4097, math.MaxInt}
	for _, lo := range bounds {
		for _, hi := range bounds {
			holdRight(t, []api.Node{one('a'), rep(0, lo, hi)})
			holdRight(t, []api.Node{empty(), rep(0, lo, hi)})
			holdRight(t, []api.Node{one('a'), rep(0, lo, hi), rep(1, 0, -1)})
		}
	}
}

// P8.2: the chapter's examples, each kind of node, and each way of a repetition.
func TestTree(t *testing.T) {
	for _, x := range []struct {
		pattern string
		most    int
		want    string
	}{
		{"a{2}", 3, "aa"}, {"a{0,2}", 3, "|a(|a)"}, {"[ab]{2,9}", 3, "[a-b]{2,9}"}, {"a{5,}", 3, "a{5}a*"},
		// Empty, Bytes, Cat, Alt.
		{"", 1, ""}, {"a", 1, "a"}, {"[^a-c]", 4096, "[\\x00-`d-\\xff]"}, {"abc", 1, "abc"}, {"a|b|", 1, "a|b|"}, {"(ab)(c|d)(e(f))", 1, "(ab)(c|d)(ef)"}, {"((a|b)|c)|(de)", 9, "((a|b)|c)|de"}, {"()()", 1, "()()"},
		{"a{2}b{9}", 3, "(aa)b{9}"}, {"a{2}|b{9}", 3, "aa|b{9}"}, {"(a{1}b?)", 3, "a(|b)"}, {"x(a{1}|b{2}(c{4}))y", 3, "x(a|(bb)c{4})y"},
		// Hi at most, and one above it.
		{"a{3}", 3, "aaa"}, {"a{4}", 3, "a{4}"}, {"a{1,3}", 3, "a(|a(|a))"}, {"a{1,4}", 3, "a{1,4}"}, {"a{2,3}", 3, "aa(|a)"}, {"a{2,4}", 3, "a{2,4}"}, {"a{3,4}", 3, "a{3,4}"}, {"a{4,5}", 3, "a{4,5}"}, {"a{1,9}", 9, "a(|a(|a(|a(|a(|a(|a(|a(|a))))))))"},
		// The same of Lo 0.
		{"a{0,3}", 3, "|a(|a(|a))"}, {"a{0,4}", 3, "|a{1,4}"}, {"a{0,4}", 4, "|a(|a(|a(|a)))"}, {"xa{0,9}y", 3, "x(|a{1,9})y"}, {"x|a{0,9}", 3, "x|(|a{1,9})"}, {"(a{0,9})*", 3, "(|a{1,9})*"},
		// Without an end: Lo 0, 1, at most, and above it.
		{"a*", 3, "a*"}, {"a+", 3, "aa*"}, {"a{2,}", 3, "aaa*"}, {"a{3,}", 3, "aaaa*"}, {"a{4,}", 3, "a{4}a*"}, {"a{4,}", 4, "aaaaa*"}, {"xa{4,}y", 3, "x(a{4}a*)y"}, {"(a{4,}|b)+", 3, "(a{4}a*|b)(a{4}a*|b)*"}, {".{4096,}", 4095, ".{4096}.*"},
		// The rest of 1, and of more.
		{"a?", 3, "|a"}, {"a{1,2}", 3, "a(|a)"}, {"a{2,5}", 5, "aa(|a(|a(|a)))"}, {"(ab)?", 1, "|ab"}, {"(ab){0,2}", 1, "|(ab)(|ab)"}, {"(ab){0,3}", 1, "|(ab)(|(ab)(|ab))"}, {"(a|b){1,3}", 1, "(a|b)(|(a|b)(|(a|b)))"}, {"()?", 1, "|"}, {"(){0,2}", 1, "|()(|)"},
		// A row of one, and of more.
		{"a{1}", 1, "a"}, {"a{1}", 4096, "a"}, {"(ab){1}", 1, "ab"}, {"(){1}", 1, ""}, {"(a|b){1}c", 1, "(a|b)c"}, {"(ab)*", 1, "(ab)*"}, {"(ab){1,2}", 1, "(ab)(|ab)"}, {"(ab){2}", 1, "(ab)(ab)"}, {"(a|b){3}", 4096, "(a|b)(a|b)(a|b)"}, {"(){2}", 1, "()()"},
		// A kid that is not Bytes: no bound is above anything.
		{"(ab){4}", 3, "(ab)(ab)(ab)(ab)"}, {"(ab){4,}", 3, "(ab)(ab)(ab)(ab)(ab)*"}, {"(ab)+", 3, "(ab)(ab)*"}, {"(a|b){0,4}", 1, "|(a|b)(|(a|b)(|(a|b)(|(a|b))))"}, {"(){4}", 3, "()()()()"}, {"(){4,}", 3, "()()()()()*"}, {"(a*){4}", 3, "a*a*a*a*"}, {"(a*)*", 3, "a**"}, {"(a{9}){4}", 3, "a{9}a{9}a{9}a{9}"}, {"(a{9}){2,}", 1, "a{9}a{9}a{9}*"}, {"a??", 1, "|(|a)"}, {"a+*", 1, "(aa*)*"}, {"a*?", 1, "|a*"}, {"(a{0,4}){2}", 3, "(|a{1,4})(|a{1,4})"}, {"(a{2}|b){2}", 1, "(a{2}|b)(a{2}|b)"},
		// A kid that is not Bytes, though its plan is.
		{"a{1}{4}", 3, "aaaa"}, {"a{1}{4,}", 3, "aaaaa*"}, {"a{1}{0,4}", 1, "|a(|a(|a(|a)))"}, {"(a{1}{1}){2}", 1, "aa"}, {"a{1}*", 1, "a*"},
		// most 1, and the greatest.
		{"a{2}", 1, "a{2}"}, {"a{1,2}", 1, "a{1,2}"}, {"a{0,2}", 1, "|a{1,2}"}, {"a{2,}", 1, "a{2}a*"}, {"a+", 1, "aa*"}, {"a{1,}", 1, "aa*"}, {"a?", 1, "|a"}, {"a{4096}", 4095, "a{4096}"}, {"a{0,4096}", 4095, "|a{1,4096}"}, {"a{5}", 4096, "aaaaa"}, {"a{2,4}", 4096, "aa(|a(|a))"}, {"a{3,}", 4096, "aaaa*"},
	} {
		l := parsed(t, x.pattern)
		got, e := planned(t, l, x.most)
		if s := shown(got); s != x.want || e != api.OK {
			t.Errorf("%q with %d: %q, %d; not %q", x.pattern, x.most, s, e, x.want)
		}
		if plan.Counted(got) != strings.Count(shown(got), "{") {
			t.Errorf("%q with %d: %d are counted", x.pattern, x.most, plan.Counted(got))
		}
	}
}

// P8.2: the nodes come in the order in which they end.
func TestOrder(t *testing.T) {
	a, b := one('a'), one('b')
	for _, x := range []struct {
		pattern string
		most    int
		want    []api.Node
	}{
		{"a{2}", 3, []api.Node{a, a, cat(0, 1)}},
		{"a{0,2}", 3, []api.Node{empty(), a, empty(), a, alt(2, 3), cat(1, 4), alt(0, 5)}},
		{"a{2,9}", 3, []api.Node{a, rep(0, 2, 9)}},
		{"a{0,9}", 3, []api.Node{empty(), a, rep(1, 1, 9), alt(0, 2)}},
		{"a{5,}", 3, []api.Node{a, rep(0, 5, 5), a, rep(2, 0, -1), cat(1, 3)}},
		{"a{1,2}", 3, []api.Node{a, empty(), a, alt(1, 2), cat(0, 3)}},
		{"a+", 3, []api.Node{a, a, rep(1, 0, -1), cat(0, 2)}},
		{"(a{9}|b){2}", 3, []api.Node{a, rep(0, 9, 9), b, alt(1, 2), a, rep(4, 9, 9), b, alt(5, 6), cat(3, 7)}},
		{"b(ab)?", 1, []api.Node{b, empty(), a, b, cat(2, 3), alt(1, 4), cat(0, 5)}},
	} {
		got, e := planned(t, parsed(t, x.pattern), x.most)
		if e != api.OK || !same(got, x.want) {
			t.Errorf("%q: %v, %d", x.pattern, got, e)
		}
	}
}

// P8.2: one repetition of each bounds, with each most, of each kind of kid.
func TestEachBounds(t *testing.T) {
	mosts := []int{1, 2, 3, 4, 5, 6, 4095, 4096}
	bounds := []int{0, 1, 2, 3, 4, 5, 6, 7}
	for _, kid := range []string{"a", "[^a]", "", "ab", "a|b", "a*", "a{1}", "a{3}", "a{2,}", "a{0,4}"} {
		for _, most := range mosts {
			for _, lo := range bounds {
				for _, hi := range append([]int{-1}, bounds...) {
					l := parsed(t, kid)
					l = append(l, rep(len(l)-1, lo, hi))
					if !syntax.Right(l) {
						continue
					}
					if _, e := planned(t, l, most); e != api.OK {
						t.Errorf("%q with %d: %d", shown(l), most, e)
					}
				}
			}
		}
	}
	greatest := []int{0, 1, 2, 4094, 4095, 4096}
	for _, most := range mosts {
		for _, lo := range greatest {
			for _, hi := range append([]int{-1}, greatest...) {
				if l := []api.Node{one('a'), rep(0, lo, hi)}; syntax.Right(l) {
					planned(t, l, most)
				}
			}
		}
	}
}

// P8.2: what is no tree, has a Ref, or a bound that may not be: ahead of what is too long.
func TestErrArg(t *testing.T) {
	long := parsed(t, "(ab){400}")
	if l, e := plan.Tree(long, 1); len(l) > 0 || e != api.ErrLong {
		t.Error("what is too long:", len(l), e)
	}
	bad := []int{0, -1, -2, -4096, 4097, 4098, 8192, math.MinInt, math.MaxInt, math.MinInt32, math.MaxInt32 + 1, 1 << 32, 1<<32 + 1}
	for _, most := range bad {
		for _, l := range [][]api.Node{parsed(t, ""), parsed(t, "a"), parsed(t, "a*"), parsed(t, "a{2,}"), long, parsed(t, "{x}"), nil} {
			if got, e := plan.Tree(l, most); len(got) > 0 || e != api.ErrArg {
				t.Errorf("most %d: %v, %d", most, got, e)
			}
		}
	}
	refLong := append(copied(long), ref("x"), cat(len(long)-1, len(long)))
	if !syntax.Right(refLong) {
		t.Error("no tree with a Ref")
	}
	for i, l := range slices.Concat(noTrees(), withRefs(t), [][]api.Node{refLong, append(copied(long), one('a'))}) {
		for _, most := range []int{1, 2, 9, 4096, 0, 4097} {
			if got, e := plan.Tree(l, most); len(got) > 0 || e != api.ErrArg {
				t.Errorf("wrong ones, %d, with %d: %v, %d", i, most, got, e)
			}
		}
	}
	for _, most := range []int{1, 4096} {
		if l, e := planned(t, parsed(t, "a"), most); len(l) != 1 || e != api.OK {
			t.Errorf("most %d: %v, %d", most, l, e)
		}
	}
}

// P8.2: a plan of MaxNodes nodes, and of more.
func TestLong(t *testing.T) {
	for _, x := range []struct {
		pattern string
		most    int
		many    int // of the plan; 0: too many
	}{
		{"a{1023}", 4096, 1024}, {"a{1024}", 4096, 0}, {"a{1023}", 1023, 1024}, {"a{1023}", 1022, 2}, {"a{1024}", 1024, 0}, {"a{1024}", 1023, 2}, {"a{4096}", 4096, 0},
		{"a{1021,}", 4096, 1024}, {"a{1022,}", 4096, 0}, {"a{1022,}", 1021, 5}, {"a{4096,}", 4096, 0},
		{"a{0,256}", 4096, 1023}, {"a{0,257}", 4096, 0}, {"a{1,256}", 4096, 1021}, {"a{1,257}", 4096, 0}, {"a{2,257}", 4096, 1022}, {"a{3,258}", 4096, 1023}, {"a{4,259}", 4096, 1024}, {"a{5,260}", 4096, 0}, {"a{0,4096}", 4096, 0}, {"a{1020,1021}", 4096, 1024}, {"a{1021,1022}", 4096, 0},
		{"(a{0,256})*", 4096, 1024}, {"(a{0,256})?", 4096, 0}, {"(a{0,256})**", 4096, 0}, {"(a{0,256})+", 4096, 0}, {"(a{0,256}){1}", 4096, 1023}, {"b(a{0,256})", 4096, 0},
		{"(ab){341}", 1, 1024}, {"(ab){342}", 1, 0}, {"(ab){339,}", 1, 1022}, {"(ab){340,}", 1, 0}, {"(ab){0,170}", 1, 1019}, {"(ab){0,171}", 1, 0},
		{"(a{2}){511}", 1, 1023}, {"(a{2}){512}", 1, 0}, {"(a{0,2}){255}", 1, 1021}, {"(a{0,2}){256}", 1, 0}, {"(a{2,}){204}", 1, 1021}, {"(a{2,}){205}", 1, 0},
		{"(a?){340}", 1, 1021}, {"(a?){341}", 1, 1024}, {"(a?){342}", 1, 0}, {"(){1023}", 1, 1024}, {"(){1024}", 1, 0}, {"(a*){511}", 1, 1023}, {"(a*){512}", 1, 0},
		{"((a{9}){9}){11}", 9, 1002}, {"((a{9}){9}){12}", 9, 0}, {"((a{9}){9}){12}", 8, 229}, {"b{2}|((a{9}){9}){12}", 8, 233}, {"((a{9}){9}){12}|b{2}", 9, 0}, {"b{2}|((a{9}){9}){12}", 9, 0},
		{"(a{1000}){1}b{21}", 1000, 1024}, {"(a{1000}){1}b{22}", 1000, 0}, {"(a{1000}){1}(b{21})*", 1000, 0}, {"(a{1000}){1}b{4000}", 1000, 1004},
	} {
		l, e := planned(t, parsed(t, x.pattern), x.most)
		want := api.OK
		if x.many == 0 {
			want = api.ErrLong
		}
		if e != want || len(l) != x.many {
			t.Errorf("%q with %d: %d nodes, %d", x.pattern, x.most, len(l), e)
		}
	}
	for i, x := range []struct {
		l    []api.Node
		many int
	}{
		{row(api.Alt, one('a'), 1023), 1024}, {row(api.Cat, empty(), 1023), 1024}, {nested(one('a'), 1023, 0, -1), 1024}, {nested(empty(), 1023, 0, -1), 1024}, {append(row(api.Cat, one('a'), 1022), rep(1022, 0, -1)), 1024}, {append(row(api.Cat, one('a'), 1022), rep(1022, 1, 1)), 1023}, {append(row(api.Cat, one('a'), 1022), rep(1022, 0, 1)), 0}, {append(row(api.Cat, one('a'), 1022), rep(1022, 1, -1)), 0},
		{nested(one('a'), 1023, 1, 1), 1}, {nested(one('a'), 9, 2, 2), 1023}, {nested(one('a'), 10, 2, 2), 0}, {append(nested(one('a'), 9, 2, 2), rep(9, 0, -1)), 1024}, {nested(one('a'), 511, 0, 1), 1023}, {nested(one('a'), 512, 0, 1), 0},
	} {
		if l, e := planned(t, x.l, 9); len(l) != x.many || (e == api.OK) != (x.many > 0) {
			t.Errorf("%d: %d nodes, %d", i, len(l), e)
		}
	}
}

// DOC.md, Rules 1: repetitions within each other, as many as a tree has room for, come to an end while one may wait.
func TestDeep(t *testing.T) {
	for _, leaf := range []api.Node{one('a'), empty()} {
		for _, bounds := range [][2]int{{0, -1}, {1, -1}, {0, 1}, {1, 1}, {1, 2}, {0, 2}, {2, 2}, {2, -1}, {4096, 4096}, {4096, -1}, {0, 4096}, {1, 4096}, {4095, 4096}} {
			for _, many := range []int{1, 2, 3, 100, 1022, 1023} {
				for _, most := range []int{1, 2, 4095, 4096} {
					planned(t, nested(leaf, many, bounds[0], bounds[1]), most)
				}
			}
		}
	}
	for _, most := range []int{1, 4096} {
		ones := nested(empty(), 1021, 1, 1)
		if l, e := planned(t, append(ones, rep(1021, 1023, 1023)), most); len(l) != 1024 || e != api.OK {
			t.Error("many times what is repeated once:", len(l), e)
		}
		if l, e := planned(t, append(ones, rep(1021, 4096, 4096)), most); len(l) != 0 || e != api.ErrLong {
			t.Error("too many times what is repeated once:", len(l), e)
		}
	}
}

// DOC.md, Rules 3: a list that is empty is as one that is nil.
func TestEmptyLists(t *testing.T) {
	leaf := one('a')
	leaf.L = []int{}
	nothing := empty()
	nothing.L = []int{}
	l := []api.Node{leaf, rep(0, 2, 5), nothing, alt(1, 2)}
	if !plan.Right(l) || plan.Counted(l) != 1 {
		t.Error(plan.Right(l), plan.Counted(l))
	}
	for _, most := range []int{1, 5} {
		got, e := plan.Tree(l, most)
		want, _ := plan.Tree([]api.Node{one('a'), rep(0, 2, 5), empty(), alt(1, 2)}, most)
		if e != api.OK || len(got) == 0 || !same(got, want) {
			t.Error(got, e)
		}
	}
}
