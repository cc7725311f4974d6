package glush_test

import (
	"math"
	"slices"
	"strings"
	"testing"

	"raddle/api"
	"raddle/glush"
	"raddle/plan"
	"raddle/syntax"
)

// The calls are those of the chapter.
var (
	_ func(...[]api.Node) (api.Glush, api.Errno) = glush.Of
	_ func(api.Glush) bool                       = glush.Right
)

// row is a tree of many leaves and one node of them all.
func row(op uint8, leaf api.Node, many int) []api.Node {
	var l []api.Node
	var kids []int
	for i := range many {
		l = append(l, leaf)
		kids = append(kids, i)
	}
	return append(l, api.Node{Op: op, L: kids})
}

// countedRow is a tree of many that are counted, and one node of them all.
func countedRow(op uint8, leaf api.Node, many int) []api.Node {
	var l []api.Node
	var kids []int
	for i := range many {
		l = append(l, leaf, rep(2*i, 1+i%3, 2+i))
		kids = append(kids, 2*i+1)
	}
	return append(l, api.Node{Op: op, L: kids})
}

// stars is a tree with many stars over it.
func stars(l []api.Node, many int) []api.Node {
	l = copied(l)
	for range many {
		l = append(l, star(len(l)-1))
	}
	return l
}

// times is a plan many times.
func times(l []api.Node, many int) [][]api.Node { return slices.Repeat([][]api.Node{l}, many) }

// good is places of all kinds that are right.
func good() api.Glush {
	return api.Glush{First: []int{0, 2}, P: []api.Pos{
		{S: only('a'), Lo: 1, Hi: 1, Next: []int{0, 1, 2}},
		{S: only(0), Lo: 4096, Hi: 4096, Rule: 511, Last: true},
		{S: only(255), Lo: 2, Hi: 9, Rule: 1, Last: true, Next: []int{2}},
	}}
}

// P9.1: places that are right.
func TestRight(t *testing.T) {
	full := api.Glush{P: make([]api.Pos, 512)}
	var all []int
	for i := range full.P {
		all = append(all, i)
	}
	full.First = all
	for i := range full.P {
		full.P[i] = api.Pos{S: only(byte(i)), Lo: 1 + i, Hi: 4096, Rule: i, Last: i%2 == 0, Next: all[i/2:]}
	}
	emptyLists := good()
	emptyLists.First, emptyLists.P[0].Next = []int{}, []int{}
	noFirst := good()
	noFirst.First = nil
	wide := good()
	wide.P[0].S = api.Set{math.MaxUint64, math.MaxUint64, math.MaxUint64, math.MaxUint64}
	for i, g := range []api.Glush{{}, {First: []int{}, P: []api.Pos{}}, good(), full, emptyLists, noFirst, wide, {P: good().P[1:2]}} {
		if !glush.Right(g) || !rightByWords(g) {
			t.Error("not right:", i)
		}
	}
	for i := range 256 {
		g := good()
		g.P[1].S = only(byte(i))
		if !glush.Right(g) {
			t.Error("not right with a set of", i)
		}
	}
	full.P = append(full.P, full.P[0])
	if glush.Right(full) || rightByWords(full) {
		t.Error("513 places are right")
	}
}

// P9.1: what rises not, a place twice, or one that there is not.
func TestRightLists(t *testing.T) {
	lists := [][]int{{0, 0}, {1, 0}, {2, 0}, {0, 2, 1}, {0, 1, 1}, {0, 0, 2}, {2, 2}, {0, 2, 2}, {2, 1, 0}, {0, 1, 2, 2}, {3}, {0, 3}, {0, 1, 2, 3}, {-1}, {-1, 0}, {0, -1}, {0, 1, -1}, {512}, {math.MaxInt}, {math.MinInt}, {math.MaxInt, math.MinInt}, {0, math.MaxInt}, {math.MinInt, 0}, {1 << 32}, {-1 << 32}}
	for _, l := range lists {
		g := good()
		g.First = l
		if glush.Right(g) || rightByWords(g) {
			t.Error("right with First", l)
		}
		for place := range g.P {
			g := good()
			g.P[place].Next = l
			if glush.Right(g) || rightByWords(g) {
				t.Error("right with Next", l, "of", place)
			}
		}
	}
	for _, l := range [][]int{{0}, {1}, {2}, {0, 1}, {0, 2}, {1, 2}, {0, 1, 2}} {
		g := good()
		g.First = l
		for place := range g.P {
			g.P[place].Next = l
		}
		if !glush.Right(g) {
			t.Error("not right with", l)
		}
	}
	for _, first := range [][]int{{0}, {-1}, {1}} {
		if glush.Right(api.Glush{First: first}) {
			t.Error("right without a place: First", first)
		}
	}
}

// P9.1: bounds, rules and sets, at each place.
func TestRightPlaces(t *testing.T) {
	odd := []int{math.MinInt, -1 << 32, -4096, -1, 0, 1, 2, 3, 4095, 4096, 4097, 8192, 1 << 32, 1<<32 + 1, math.MaxInt}
	rights := 0
	for place := range good().P {
		for _, lo := range odd {
			for _, hi := range odd {
				g := good()
				g.P[place].Lo, g.P[place].Hi = lo, hi
				right := rightByWords(g)
				if glush.Right(g) != right {
					t.Error("bounds", lo, hi, "at", place)
				}
				if right {
					rights++
				}
			}
		}
		for rule, right := range map[int]bool{0: true, 1: true, 510: true, 511: true, 512: false, 513: false, -1: false, -511: false, math.MaxInt: false, math.MinInt: false, 1 << 32: false} {
			g := good()
			g.P[place].Rule = rule
			if glush.Right(g) != right || rightByWords(g) != right {
				t.Error("rule", rule, "at", place)
			}
		}
		g := good()
		g.P[place].S = api.Set{}
		if glush.Right(g) || rightByWords(g) {
			t.Error("right without a byte at", place)
		}
	}
	if rights != 3*15 {
		t.Error("right bounds:", rights)
	}
}

// P9.2: the chapter's example, field by field.
func TestExample(t *testing.T) {
	g, e := glush.Of(parsed(t, "ab*", "c{2,9}")...)
	want := api.Glush{First: []int{0, 2}, P: []api.Pos{
		{S: only('a'), Lo: 1, Hi: 1, Last: true, Next: []int{1}},
		{S: only('b'), Lo: 1, Hi: 1, Last: true, Next: []int{1}},
		{S: only('c'), Lo: 2, Hi: 9, Rule: 1, Last: true},
	}}
	if e != api.OK || !samePlaces(g, want) {
		t.Error(g, e)
	}
}

// P9.2: plans by their places, worked out by hand: see shown.
func TestOf(t *testing.T) {
	for pattern, want := range map[string]string{
		// Each kind of node.
		"": ":", "a": "0: a!", "[ab]": "0: [a-b]!", "ab": "0: a>1 b!", "a|b": "0,1: a! b!", "a*": "0: a!>0", "a{2,3}": "0: a{2,3}!", "a{1,2}": "0: a{1,2}!", "a{4096}": "0: a{4096,4096}!",
		"abc": "0: a>1 b>2 c!", "a|b|c": "0,1,2: a! b! c!", "|a": "0: a!", "a||b|": "0,1: a! b!", "|": ":", "(ab|c)(d|ef)": "0,2: a>1 b>3,4 c>3,4 d! e>5 f!", "ab|cd": "0,2: a>1 b! c>3 d!",
		// A Cat some of whose kids may be nothing.
		"a*bc": "0,1: a>0,1 b>2 c!", "ab*c": "0: a>1,2 b>1,2 c!", "abc*": "0: a>1 b!>2 c!>2", "a*b*c": "0,1,2: a>0,1,2 b>1,2 c!", "ab*c*": "0: a!>1,2 b!>1,2 c!>2", "a*bc*": "0,1: a>0,1 b!>2 c!>2",
		"a*b*c*": "0,1,2: a!>0,1,2 b!>1,2 c!>2", "(|a)(|b)": "0,1: a!>1 b!", "(|a)b(|c)": "0,1: a>1 b!>2 c!", "()()()": ":", "()a": "0: a!", "a()": "0: a!", "a()b": "0: a>1 b!", "a()()b": "0: a>1 b!", "a(|b)(|c)d": "0: a>1,2,3 b>2,3 c>3 d!",
		"a(b*c*)d": "0: a>1,2,3 b>1,2,3 c>2,3 d!", "(a*|b)c": "0,1,2: a>0,2 b>2 c!", "a(b{2}|c*)d": "0: a>1,2,3 b{2,2}>3 c>2,3 d!", "a*(bc*)": "0,1: a>0,1 b!>2 c!>2",
		// A star over each kind of node.
		"()*": ":", "(ab)*": "0: a>1 b!>0", "(a|b)*": "0,1: a!>0,1 b!>0,1", "a**": "0: a!>0", "(a{2,3})*": "0: a{2,3}!>0", "(|a)*": "0: a!>0", "(a*b)*": "0,1: a>0,1 b!>0,1", "(ab*)*": "0: a!>0,1 b!>0,1", "(ab)*c": "0,2: a>1 b>0,2 c!", "(a{2,3}b)*": "0: a{2,3}>1 b!>0", "a****": "0: a!>0", "((a|b)*c)*": "0,1,2: a>0,1,2 b>0,1,2 c!>0,1,2",
		// What follows by several ways.
		"(a*b*)*": "0,1: a!>0,1 b!>0,1", "(a*)*b": "0,1: a>0,1 b!", "((a*)*)*": "0: a!>0", "(a*a*)*": "0,1: a!>0,1 a!>0,1", "((ab)*)*": "0: a>1 b!>0", "((a|b*)*c*)*": "0,1,2: a!>0,1,2 b!>0,1,2 c!>0,1,2", "(a*(b|c)*)*": "0,1,2: a!>0,1,2 b!>0,1,2 c!>0,1,2",
		// A counted Rep's kid is no place.
		"ba{2,3}c": "0: b>1 a{2,3}>2 c!", "a{2}b{3}": "0: a{2,2}>1 b{3,3}!", "a{2}|a": "0,1: a{2,2}! a!", "aa{2}": "0: a>1 a{2,2}!", "a*a{5}": "0,1: a>0,1 a{5,5}!", "a{2}*": "0: a{2,2}!>0", "(a{2}b{1,2}|c)*": "0,2: a{2,2}>1 b{1,2}!>0,2 c!>0,2", "(|a{1,9})b": "0,1: a{1,9}>1 b!",
	} {
		plans := parsed(t, pattern)
		g, e := placed(t, plans...)
		if e != api.OK || shown(g) != want {
			t.Errorf("%q: %s, %d; it must be %s", pattern, shown(g), e, want)
		}
	}
}

// P9.2: no plan at all, one, and several: places in order, each with its plan's place, and none behind one of another plan.
func TestSeveral(t *testing.T) {
	for _, x := range []struct {
		patterns []string
		want     string
	}{
		{nil, ":"},
		{[]string{""}, ":"}, {[]string{"", ""}, ":"}, {[]string{"a"}, "0: a!"},
		{[]string{"a", "b"}, "0,1: a! 1:b!"}, {[]string{"b", "a"}, "0,1: b! 1:a!"}, {[]string{"a", "a"}, "0,1: a! 1:a!"},
		{[]string{"", "a", "", "b"}, "0,1: 1:a! 3:b!"}, {[]string{"a", ""}, "0: a!"},
		{[]string{"ab", "cd"}, "0,2: a>1 b! 1:c>3 1:d!"}, {[]string{"a*", "b*"}, "0,1: a!>0 1:b!>1"}, {[]string{"a*b*", "(cd)*"}, "0,1,2: a!>0,1 b!>1 1:c>3 1:d!>2"},
		{[]string{"ab*", "c{2,9}"}, "0,2: a!>1 b!>1 1:c{2,9}!"}, {[]string{"a{2}", "", "(b{3}|c)*d", "e"}, "0,1,2,3,4: a{2,2}! 2:b{3,3}>1,2,3 2:c>1,2,3 2:d! 3:e!"},
		{[]string{"|a|b", "c*d|e", "ab"}, "0,1,2,3,4,5: a! b! 1:c>2,3 1:d! 1:e! 2:a>6 2:b!"},
	} {
		g, e := placed(t, parsed(t, x.patterns...)...)
		if e != api.OK || shown(g) != x.want {
			t.Errorf("%q: %s, %d; it must be %s", x.patterns, shown(g), e, x.want)
		}
	}
	if g, e := glush.Of([][]api.Node{}...); e != api.OK || len(g.First) > 0 || len(g.P) > 0 {
		t.Error("of an empty list:", g, e)
	}
}

// noPlans are nodes that are no tree, and trees that are no plans.
func noPlans(t *testing.T) [][]api.Node {
	t.Helper()
	a, b := one('a'), one('b')
	l := [][]api.Node{
		nil, {}, {{}}, {{Op: 7}}, {{Op: 255}}, {{Op: api.Bytes}}, {a, b}, {empty(), empty()}, {a, b, cat(1, 0)}, {a, b, cat(0, 0)}, {a, b, cat(0, 2)}, {a, b, cat(0, 3)}, {a, b, alt(-1, 0)},
		{empty(), cat(0)}, {a, alt(0)}, {cat()}, {{Op: api.Rep, Hi: -1}}, {star(0)}, {star(1), a}, {a, rep(1, 2, 3)}, {a, rep(math.MaxInt, 2, 3)}, {a, rep(math.MinInt, 2, 3)}, {a, b, rep(0, 2, 3)}, {a, b, {Op: api.Rep, L: []int{0, 1}, Hi: -1}},
		{a, rep(0, 0, 0)}, {a, rep(0, 3, 2)}, {a, rep(0, 2, 4097)}, {a, rep(0, -1, -1)}, {a, rep(0, 0, -2)}, {{Op: api.Empty, S: a.S}}, {{Op: api.Bytes, S: a.S, Lo: 1, Hi: 1}},
		stars([]api.Node{a}, 1024), row(api.Cat, empty(), 1024),
	}
	for _, s := range []string{"a+", "a?", "a{1}", "a{0,2}", "a{2,}", "(ab){2}", "(){2,3}", "(a|b){2}", "a{2}{2}", "a*{2,3}", "(a*)+", "{x}", "a{x}", "{x}*", "(a{2}|{x})*"} {
		tree, _, e := syntax.Parse(s)
		if e != api.OK {
			t.Fatalf("%q: %d", s, e)
		}
		l = append(l, tree)
	}
	return append(l, append(row(api.Cat, a, 1000), ref("x"), cat(1000, 1001)))
}

// P9.2: a plan that is none, alone and among others, ahead of too many places.
func TestErrArg(t *testing.T) {
	others := parsed(t, "a", "b*c{2,9}", "")
	long := times(row(api.Cat, one('a'), 513), 2)
	for i, bad := range noPlans(t) {
		if plan.Right(bad) {
			t.Fatal("right:", i)
		}
		for _, l := range [][][]api.Node{others, long, nil, times(row(api.Cat, empty(), 2), 511)} {
			for at := range len(l) + 1 {
				if at > 5 && at < len(l)-5 {
					continue
				}
				if g, e := glush.Of(slices.Insert(slices.Clone(l), at, bad)...); e != api.ErrArg || len(g.First) > 0 || len(g.P) > 0 {
					t.Errorf("%d among %d at %d: %v, %d", i, len(l), at, g, e)
				}
			}
		}
	}
}

// P9.2: as many plans as may be, and more.
func TestManyPlans(t *testing.T) {
	for _, s := range []string{"", "a", "()*", "a*", "a{3}"} {
		l := parsed(t, s)[0]
		places := strings.Count(s, "a")
		g, e := placed(t, times(l, 512)...)
		if e != api.OK || len(g.P) != 512*places || len(g.First) != 512*places {
			t.Errorf("%q 512 times: %d places, %d", s, len(g.P), e)
		}
		for i, p := range g.P {
			if p.Rule != i || g.First[i] != i {
				t.Errorf("%q: place %d of rule %d", s, i, p.Rule)
			}
		}
		for _, many := range []int{513, 514, 1024, 1 << 16} {
			if g, e := glush.Of(times(l, many)...); e != api.ErrArg || len(g.P) > 0 || len(g.First) > 0 {
				t.Errorf("%q %d times: %d places, %d", s, many, len(g.P), e)
			}
		}
	}
	if g, e := placed(t, times(parsed(t, "ab")[0], 256)...); e != api.OK || len(g.P) != 512 {
		t.Error("256 of two:", len(g.P), e)
	}
	if _, e := glush.Of(times(parsed(t, "ab")[0], 513)...); e != api.ErrArg {
		t.Error("513 of two:", e)
	}
}

// P9.2: as many places as may be, and more: in one plan, and in several.
func TestManyPlaces(t *testing.T) {
	a := one('a')
	for i, x := range []struct {
		plans [][]api.Node
		many  int // 0: too many
	}{
		{times(row(api.Cat, a, 512), 1), 512}, {times(row(api.Cat, a, 513), 1), 0}, {times(row(api.Alt, a, 512), 1), 512}, {times(row(api.Alt, a, 513), 1), 0}, {times(row(api.Cat, a, 1023), 1), 0},
		{times(stars(row(api.Cat, a, 512), 1), 1), 512}, {times(stars(row(api.Alt, a, 512), 2), 1), 512}, {times(stars(row(api.Alt, a, 513), 1), 1), 0},
		{times(row(api.Cat, a, 256), 2), 512}, {append(times(row(api.Cat, a, 256), 2), []api.Node{a}), 0}, {append(times(row(api.Cat, a, 256), 2), []api.Node{empty()}), 512}, {times(row(api.Alt, a, 2), 256), 512}, {times(row(api.Alt, a, 2), 257), 0}, {times(row(api.Alt, a, 2), 512), 0}, {times(row(api.Cat, a, 1023), 512), 0},
		{times(countedRow(api.Cat, a, 511), 1), 511}, {append(times(countedRow(api.Cat, a, 511), 1), []api.Node{a}), 512}, {append(times(countedRow(api.Cat, a, 511), 1), []api.Node{a, rep(0, 2, 2)}), 512}, {append(times(countedRow(api.Alt, a, 511), 1), row(api.Cat, a, 2)), 0}, {times(countedRow(api.Alt, a, 256), 2), 512}, {append(times(countedRow(api.Alt, a, 256), 2), []api.Node{a, rep(0, 1, 4096)}), 0},
	} {
		want := api.OK
		if x.many == 0 {
			want = api.ErrLong
		}
		g, e := glush.Of(x.plans...)
		if e != want || len(g.P) != x.many || x.many == 0 && len(g.First) > 0 {
			t.Errorf("%d: %d places, %d", i, len(g.P), e)
		}
		follows(t, g)
	}
	g, _ := placed(t, row(api.Cat, a, 512))
	for i, p := range g.P {
		if i < 511 && !slices.Equal(p.Next, []int{i + 1}) || p.Last != (i == 511) {
			t.Error("in a row:", i, p)
		}
	}
	g, _ = glush.Of(stars(row(api.Alt, a, 512), 1))
	for i, p := range g.P {
		if len(p.Next) != 512 || !p.Last {
			t.Error("in a star:", i, len(p.Next))
		}
	}
}

// P9.2: rows of which all kids may be nothing, as long as a tree has room for.
func TestLongRows(t *testing.T) {
	var l []api.Node
	var kids []int
	for i := range 511 {
		l = append(l, one('a'), star(2*i))
		kids = append(kids, 2*i+1)
	}
	g, e := glush.Of(append(l, cat(kids...)))
	if e != api.OK || len(g.P) != 511 || len(g.First) != 511 {
		t.Fatal(len(g.P), len(g.First), e)
	}
	for i, p := range g.P {
		if !p.Last || len(p.Next) != 511-i || p.Next[0] != i {
			t.Error(i, p.Last, len(p.Next))
		}
	}
	follows(t, g)
	// Nothing but the ends of a row of nothing is a place.
	l = slices.Insert(row(api.Cat, empty(), 1021), 0, one('a'))[:1022]
	l = append(l, one('b'))
	kids = nil
	for i := range l {
		kids = append(kids, i)
	}
	if g, e := glush.Of(append(l, cat(kids...))); e != api.OK || shown(g) != "0: a>1 b!" {
		t.Error(shown(g), e)
	}
}

// DOC.md, Rules 1: plans as deep as a tree has room for, as many as may be, come to an end while one may wait.
func TestDeep(t *testing.T) {
	for _, x := range []struct {
		l    []api.Node
		want string
	}{
		{stars([]api.Node{one('a')}, 1023), "0: a!>0"}, {stars([]api.Node{empty()}, 1023), ":"}, {stars([]api.Node{one('a'), rep(0, 2, 5)}, 1022), "0: a{2,5}!>0"},
	} {
		if g, e := glush.Of(x.l); e != api.OK || shown(g) != x.want {
			t.Errorf("%s, %d; it must be %s", shown(g), e, x.want)
		}
		if g, e := glush.Of(times(x.l, 512)...); e != api.OK || len(g.P) != 512*len(strings.Fields(x.want)[1:]) {
			t.Error("512 times:", len(g.P), e)
		}
	}
	wide := stars(row(api.Alt, one('a'), 512), 511)
	if g, e := glush.Of(wide); e != api.OK || len(g.P) != 512 || len(g.P[0].Next) != 512 {
		t.Error("512 places in 511 stars:", len(g.P), e)
	}
	// Each row has the row ahead as its first kid.
	for _, kid := range []api.Node{empty(), one('a')} {
		l := []api.Node{one('a')}
		for len(l) < 1023 {
			l = append(l, kid, cat(len(l)-1, len(l)))
		}
		many := 1
		if kid.Op == api.Bytes {
			many = 512
		}
		if g, e := glush.Of(l); e != api.OK || len(g.P) != many || !slices.Equal(g.First, []int{0}) || !g.P[many-1].Last {
			t.Error("rows within each other:", len(g.P), g.First, e)
		}
		if kid.Op == api.Empty {
			if g, e := glush.Of(times(l, 512)...); e != api.OK || len(g.P) != 512 {
				t.Error("512 times rows within each other:", len(g.P), e)
			}
		}
	}
}

// DOC.md, Rules 3: a list that is empty is as one that is nil.
func TestEmptyLists(t *testing.T) {
	leaf, nothing := one('a'), empty()
	leaf.L, nothing.L = []int{}, []int{}
	l := []api.Node{leaf, rep(0, 2, 5), nothing, leaf, alt(1, 2, 3)}
	if g, e := glush.Of(l, []api.Node{nothing}, []api.Node{leaf}); e != api.OK || shown(g) != "0,1,2: a{2,5}! a! 2:a!" {
		t.Error(shown(g), e)
	}
}
