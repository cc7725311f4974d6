package nca_test

import (
	"maps"
	"slices"
	"strconv"
	"strings"
	"testing"

	"raddle/api"
	"raddle/glush"
	"raddle/lang"
	"raddle/nca"
	"raddle/plan"
	"raddle/print"
	"raddle/syntax"
)

func empty() api.Node { return api.Node{Op: api.Empty} }

func one(c byte) api.Node { return api.Node{Op: api.Bytes, S: some(c)} }

// some is the set of some bytes.
func some(l ...byte) api.Set {
	var s api.Set
	for _, c := range l {
		s[c/64] |= 1 << (c % 64)
	}
	return s
}

func cat(kids ...int) api.Node { return api.Node{Op: api.Cat, L: kids} }

func alt(kids ...int) api.Node { return api.Node{Op: api.Alt, L: kids} }

func rep(kid, lo, hi int) api.Node {
	return api.Node{Op: api.Rep, L: []int{kid}, Lo: lo, Hi: hi}
}

// copied is nodes that share nothing with others.
func copied(l []api.Node) []api.Node {
	c := slices.Clone(l)
	for i := range c {
		c[i].L = slices.Clone(c[i].L)
	}
	return c
}

// copiedPlaces is places that share nothing with others.
func copiedPlaces(g api.Glush) api.Glush {
	c := api.Glush{First: slices.Clone(g.First), P: slices.Clone(g.P)}
	for i := range c.P {
		c.P[i].Next = slices.Clone(c.P[i].Next)
	}
	return c
}

// copiedConfig is a Config that shares nothing with others.
func copiedConfig(c api.Config) api.Config {
	c.L = slices.Clone(c.L)
	for i := range c.L {
		c.L[i].N = slices.Clone(c.L[i].N)
	}
	return c
}

func samePos(a, b api.Pos) bool {
	return a.S == b.S && a.Lo == b.Lo && a.Hi == b.Hi && a.Rule == b.Rule && a.Last == b.Last && slices.Equal(a.Next, b.Next)
}

func samePlaces(a, b api.Glush) bool {
	return slices.Equal(a.First, b.First) && slices.EqualFunc(a.P, b.P, samePos)
}

func same(a, b api.Config) bool {
	return a.Begin == b.Begin && slices.EqualFunc(a.L, b.L, func(h, k api.Held) bool { return h.P == k.P && slices.Equal(h.N, k.N) })
}

// parsed is the trees of patterns.
func parsed(t *testing.T, patterns ...string) [][]api.Node {
	t.Helper()
	var trees [][]api.Node
	for _, s := range patterns {
		l, _, e := syntax.Parse(s)
		if e != api.OK {
			t.Fatalf("%.60q: %d", s, e)
		}
		trees = append(trees, l)
	}
	return trees
}

// placed is the places of trees, of which repetitions up to some number are written out, and whether they are not too many.
func placed(t *testing.T, trees [][]api.Node, most int) (api.Glush, bool) {
	t.Helper()
	var plans [][]api.Node
	for _, l := range trees {
		p, e := plan.Tree(l, most)
		if e == api.ErrLong {
			return api.Glush{}, false
		}
		if e != api.OK {
			t.Fatalf("%.300s: %d", shownTrees(trees), e)
		}
		plans = append(plans, p)
	}
	g, e := glush.Of(plans...)
	return g, e == api.OK
}

// places is the places of patterns whose repetitions are counted wherever they may be.
func places(t *testing.T, patterns ...string) api.Glush {
	t.Helper()
	g, ok := placed(t, parsed(t, patterns...), 1)
	if !ok {
		t.Fatalf("%.60q: too long", patterns)
	}
	return g
}

// shownTrees is trees as patterns.
func shownTrees(trees [][]api.Node) string {
	var all []string
	for _, l := range trees {
		s, ok := print.Tree(l)
		if !ok {
			s = "none"
		}
		all = append(all, strconv.Quote(s))
	}
	return strings.Join(all, ", ")
}

func numbers(l []int) string {
	var all []string
	for _, n := range l {
		all = append(all, strconv.Itoa(n))
	}
	return strings.Join(all, ",")
}

// shown is where one is as a text: ^ at the beginning, and of each place its number, a colon, and its counts.
func shown(c api.Config) string {
	var all []string
	if c.Begin {
		all = append(all, "^")
	}
	for _, h := range c.L {
		all = append(all, strconv.Itoa(h.P)+":"+numbers(h.N))
	}
	return strings.Join(all, " ")
}

// rises tells whether each number is greater than the one ahead, and from one number to another one.
func rises(l []int, from, to int) bool {
	for i, n := range l {
		if n < from || n > to || i > 0 && n <= l[i-1] {
			return false
		}
	}
	return true
}

// rightByWords says by the chapter's own words what Right tells.
func rightByWords(g api.Glush, c api.Config) bool {
	var at []int
	for _, h := range c.L {
		at = append(at, h.P)
	}
	switch {
	case !glush.Right(g):
		return false
	case c.Begin:
		return len(at) == 0
	case !rises(at, 0, len(g.P)-1):
		return false
	}
	for _, h := range c.L {
		if len(h.N) < 1 || !rises(h.N, 1, g.P[h.P].Hi) {
			return false
		}
	}
	return true
}

// hasRipe tells whether a place that is held has a count that is not below its Lo.
func hasRipe(g api.Glush, h api.Held) bool {
	return slices.ContainsFunc(h.N, func(n int) bool { return !(n < g.P[h.P].Lo) })
}

// stepByWords says by the chapter's own words what Step tells.
func stepByWords(g api.Glush, c api.Config, b byte) api.Config {
	var there api.Config
	if !rightByWords(g, c) {
		return there
	}
	for q, p := range g.P {
		if p.S[b/64]>>(b%64)&1 == 0 {
			continue
		}
		counts := map[int]int{}
		for _, h := range c.L {
			for _, n := range h.N {
				if h.P == q && n < p.Hi {
					counts[n+1]++
				}
			}
			if hasRipe(g, h) && slices.Contains(g.P[h.P].Next, q) {
				counts[1]++
			}
		}
		if c.Begin && slices.Contains(g.First, q) {
			counts[1]++
		}
		if len(counts) > 0 {
			there.L = append(there.L, api.Held{P: q, N: slices.Sorted(maps.Keys(counts))})
		}
	}
	return there
}

// ruleByWords says by the chapter's own words what Rule tells.
func ruleByWords(g api.Glush, c api.Config) int {
	var rules []int
	if rightByWords(g, c) {
		for _, h := range c.L {
			if g.P[h.P].Last && hasRipe(g, h) {
				rules = append(rules, g.P[h.P].Rule)
			}
		}
	}
	if len(rules) == 0 {
		return -1
	}
	return slices.Min(rules)
}

// longestByWords says by the chapter's own words what Longest tells.
func longestByWords(g api.Glush, w string, from int) (to, rule int, ok bool) {
	if !glush.Right(g) || from < 0 || from > len(w) {
		return 0, 0, false
	}
	c := api.Config{Begin: true}
	for i, b := range []byte(w[from:]) {
		c = stepByWords(g, c, b)
		if r := ruleByWords(g, c); r != -1 {
			to, rule, ok = from+i+1, r, true
		}
	}
	return to, rule, ok
}

// hold holds what is told of places and a Config, right or not, against the chapter's words, and tells whether they are right.
func hold(t *testing.T, g api.Glush, c api.Config, text string) bool {
	t.Helper()
	right := rightByWords(g, c)
	if nca.Right(g, c) != right {
		t.Fatalf("%v, %s: right must be %t", g, shown(c), right)
	}
	if r, want := nca.Rule(g, c), ruleByWords(g, c); r != want {
		t.Fatalf("%v, %s: rule %d; it must be %d", g, shown(c), r, want)
	}
	for _, b := range []byte(text) {
		there, want := nca.Step(g, c, b), stepByWords(g, c, b)
		if !same(there, want) {
			t.Fatalf("%v, %s by %q: %s; it must be %s", g, shown(c), b, shown(there), shown(want))
		}
		if right && !rightByWords(g, there) {
			t.Fatalf("%v, %s by %q: %s, which is not right", g, shown(c), b, shown(there))
		}
	}
	return right
}

// walk holds what is told of each place of a text, and of the longest way from each, against the chapter's words.
func walk(t *testing.T, g api.Glush, w string) {
	t.Helper()
	c := nca.Start()
	for i := range len(w) {
		hold(t, g, c, w[i:i+1])
		c = nca.Step(g, c, w[i])
	}
	hold(t, g, c, "")
	for from := -1; from <= len(w)+1; from++ {
		to, rule, ok := nca.Longest(g, w, from)
		if wantTo, want, wantOK := longestByWords(g, w, from); to != wantTo || rule != want || ok != wantOK {
			t.Fatalf("%v in %q from %d: %d, %d, %t; it must be %d, %d, %t", g, w, from, to, rule, ok, wantTo, want, wantOK)
		}
	}
}

// means holds where the places of trees end in a text, from each place on, against where layer 7 says that the trees may, and tells how many ends there are.
func means(t *testing.T, g api.Glush, trees [][]api.Node, w string) int {
	t.Helper()
	many := 0
	for from := range len(w) + 1 {
		least := make([]int, len(w)+1)
		for rule := len(trees); rule > 0; rule-- {
			for _, end := range lang.Ends(trees[rule-1], w, from) {
				least[end] = rule
			}
		}
		c := nca.Start()
		longest, longestRule := 0, 0
		for at := from; at < len(w); at++ {
			c = nca.Step(g, c, w[at])
			r := nca.Rule(g, c)
			if r != least[at+1]-1 {
				t.Fatalf("%.300s in %q from %d to %d: rule %d; it must be %d", shownTrees(trees), w, from, at+1, r, least[at+1]-1)
			}
			if r >= 0 {
				longest, longestRule = at+1, r
				many++
			}
		}
		if to, rule, ok := nca.Longest(g, w, from); to != longest || rule != longestRule || ok != (longest > 0) {
			t.Fatalf("%.300s in %q from %d: %d, %d, %t; it must be %d, %d", shownTrees(trees), w, from, to, rule, ok, longest, longestRule)
		}
	}
	return many
}
