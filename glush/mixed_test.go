package glush_test

import (
	"slices"
	"strings"
	"testing"

	"raddle/api"
	"raddle/glush"
	"raddle/plan"
	"raddle/syntax"
)

// drawer draws numbers by a rule, so that each run draws the same ones.
type drawer uint64

func (d *drawer) below(n int) int {
	*d = *d*6364136223846793005 + 1442695040888963407
	return int(uint64(*d) >> 33 % uint64(n))
}

// plan draws a plan of some size or a bit more, of bounds up to some number: nodes whose kids are the last ones without a parent, and at the end one for all that are left.
func (d *drawer) plan(size, bound int) []api.Node {
	var l []api.Node
	var orphans []int
	for len(l) < size-1 {
		many := 0
		n := d.leaf()
		switch kind := d.below(10); {
		case len(orphans) > 1 && kind < 3:
			many = 2 + d.below(min(len(orphans)-1, 4))
			n = api.Node{Op: []uint8{api.Cat, api.Cat, api.Alt}[d.below(3)]}
		case len(orphans) > 0 && kind < 5:
			many = 1
			n = star(0)
		case len(l) > 0 && l[len(l)-1].Op == api.Bytes && kind < 7:
			many = 1
			hi := 2 + d.below(bound-1)
			n = rep(0, 1+d.below(hi), hi)
		}
		rest := len(orphans) - many
		n.L = slices.Clone(orphans[rest:])
		orphans = append(orphans[:rest], len(l))
		l = append(l, n)
	}
	switch {
	case len(l) == 0:
		return []api.Node{d.leaf()}
	case len(orphans) == 1:
		return l
	}
	return append(l, api.Node{Op: []uint8{api.Cat, api.Alt}[d.below(2)], L: orphans})
}

func (d *drawer) leaf() api.Node {
	switch d.below(6) {
	case 0:
		return empty()
	case 1:
		n := one('a')
		n.S[1] |= one('b').S[1]
		return n
	}
	return one(byte('a' + d.below(2)))
}

func (d *drawer) text(most int) string {
	var b strings.Builder
	for range d.below(most + 1) {
		b.WriteByte("aaaabbbc"[d.below(8)])
	}
	return b.String()
}

// grow hands out all plans of up to some nodes, each of some kinds.
func grow(most int, leaves, reps []api.Node, take func([]api.Node)) {
	var more func(l []api.Node, orphans []int)
	more = func(l []api.Node, orphans []int) {
		if len(orphans) == 1 {
			take(copied(l))
		}
		if len(l) == most {
			return
		}
		put := func(n api.Node, many int) {
			rest := len(orphans) - many
			n.L = append([]int(nil), orphans[rest:]...)
			more(append(l[:len(l):len(l)], n), append(orphans[:rest:rest], len(l)))
		}
		for _, n := range leaves {
			put(n, 0)
		}
		for many := 1; many <= len(orphans); many++ {
			if many > 1 {
				put(cat(), many)
				put(alt(), many)
				continue
			}
			for _, n := range reps {
				if n.Hi == -1 || l[len(l)-1].Op == api.Bytes {
					put(n, 1)
				}
			}
		}
	}
	more(nil, nil)
}

// P9.2, P9.3: all plans of a few nodes, and what they mean in a text.
func TestAllShort(t *testing.T) {
	plans, ends := 0, 0
	grow(6, []api.Node{empty(), one('a'), one('b')}, []api.Node{star(0), rep(0, 2, 3), rep(0, 1, 2)}, func(l []api.Node) {
		g, e := placed(t, l)
		if e != api.OK {
			t.Fatal(shownPlans([][]api.Node{l}), e)
		}
		for _, w := range []string{"aabab", "baaa"} {
			ends += means(t, g, [][]api.Node{l}, w)
		}
		plans++
	})
	if plans < 2000 || ends < 2000 {
		t.Error("plans, and ends:", plans, ends)
	}
	plans = 0
	grow(8, []api.Node{empty(), one('a')}, []api.Node{star(0)}, func(l []api.Node) {
		placed(t, l)
		plans++
	})
	if plans < 10000 {
		t.Error("plans of more nodes:", plans)
	}
}

// P9.2, P9.3: pairs of all plans of a few nodes.
func TestAllPairs(t *testing.T) {
	var all [][]api.Node
	grow(4, []api.Node{empty(), one('a')}, []api.Node{star(0), rep(0, 2, 2)}, func(l []api.Node) { all = append(all, l) })
	if len(all) < 20 {
		t.Error("plans:", len(all))
	}
	for _, first := range all {
		for _, second := range all {
			g, _ := placed(t, first, second)
			means(t, g, [][]api.Node{first, second}, "aaaa")
		}
	}
}

// P9.2, P9.3: plans of many shapes, however many, drawn by a rule.
func TestMixed(t *testing.T) {
	d := drawer(9)
	right, long, places, ends := 0, 0, 0, 0
	for i := range 3000 {
		var plans [][]api.Node
		for range d.below(2 + i%5) {
			plans = append(plans, d.plan(1+d.below(6+i%40), 2+d.below(6)))
		}
		if i%50 == 0 {
			plans = append(plans, d.plan(400+d.below(600), 4096), d.plan(100+d.below(900), 9))
		}
		g, e := placed(t, plans...)
		if e != api.OK {
			long++
			continue
		}
		right++
		places += len(g.P)
		if len(g.P) < 100 {
			ends += means(t, g, plans, d.text(3+i%9))
		}
	}
	if right < 2000 || long < 10 || places < 20000 || ends < 3000 {
		t.Error("right, too long, places, ends:", right, long, places, ends)
	}
}

// P9.2, P9.3: what layer 8 makes of patterns, with each bound; which ones are counted changes places, but not what they mean.
func TestPlanned(t *testing.T) {
	d := drawer(90)
	patterns := []string{"a{2}", "a?b+", "[ab]{2,9}", "a{5,}", "a{0,7}b?", "(a{3,7}b{0,2})*", "(a{0,12}|b{9,}){2,3}", "([ab]{4,6}|a)*b", "((ab){2}|b{4,6}){1,}", "(a{2,3}){2,4}", "a{4,}b{1,3}a?", "(a|b?){3}", "((a*)+b*)?"}
	for _, most := range []int{1, 2, 3, 5, 8, 100} {
		var plans [][]api.Node
		for _, s := range patterns {
			l, _, e := syntax.Parse(s)
			if e != api.OK {
				t.Fatalf("%q: %d", s, e)
			}
			p, e := plan.Tree(l, most)
			if e != api.OK {
				t.Fatalf("%q with %d: %d", s, most, e)
			}
			plans = append(plans, p)
		}
		g, e := placed(t, plans...)
		if e != api.OK {
			t.Fatal("with", most, e)
		}
		ends := 0
		for range 100 {
			ends += means(t, g, plans, d.text(30))
		}
		if ends < 1000 {
			t.Error("ends:", ends)
		}
	}
}

// P9.1: places that something of is changed.
func TestRightMixed(t *testing.T) {
	d := drawer(5)
	right, wrong := 0, 0
	for range 4000 {
		g, e := glush.Of(d.plan(12, 9), d.plan(9, 4096))
		if e != api.OK || len(g.P) == 0 {
			continue
		}
		odd := d.below(len(g.P)+3) - 1
		p := &g.P[d.below(len(g.P))]
		switch d.below(6) {
		case 0:
			p.Lo = []int{-1, 0, 1, 4097, p.Hi, p.Hi + 1}[d.below(6)]
		case 1:
			p.Hi = []int{-1, 0, p.Lo - 1, p.Lo, 4096, 4097}[d.below(6)]
		case 2:
			p.Rule = []int{-1, 0, 511, 512}[d.below(4)]
		case 3:
			p.S[1] &= uint64(d.below(2))
		case 4:
			p.Next = slices.Insert(p.Next, d.below(len(p.Next)+1), odd)
		case 5:
			g.First = slices.Insert(g.First, d.below(len(g.First)+1), odd)
		}
		want := rightByWords(g)
		if glush.Right(g) != want {
			t.Fatal(g, "must be", want)
		}
		if want {
			right++
		} else {
			wrong++
		}
	}
	if right < 500 || wrong < 500 {
		t.Error("right, and wrong:", right, wrong)
	}
}

// DOC.md, Rules 4: what is handed in is not changed, and nothing behind a list's length is read.
func TestArgumentsStay(t *testing.T) {
	before := parsed(t, "(a{2,9}|b*c)*d(|e)", "a", "", "(ab)*c{3}", "x|(y|z{4096})*")
	plans := make([][]api.Node, len(before))
	for k := range before {
		c := copied(before[k])
		for i := range c {
			c[i].L = append(slices.Clone(c[i].L), 7, 8, 9)[:len(c[i].L)]
		}
		plans[k] = append(c, one('r'), star(0))[:len(c)]
	}
	plans = append(plans, []api.Node{ref("none")}, nil)[:len(before)]
	g, e := glush.Of(plans...)
	want, wrong := glush.Of(before...)
	if e != wrong || !samePlaces(g, want) {
		t.Error("what is behind the length tells:", shown(g), e)
	}
	for k, l := range plans {
		if !same(l, before[k]) || !same(l[:len(l)+2][len(l):], []api.Node{one('r'), star(0)}) {
			t.Error("changed:", k)
		}
		for i, n := range l {
			if !slices.Equal(n.L[:len(n.L)+3][len(n.L):], []int{7, 8, 9}) {
				t.Error("what is behind is changed:", k, i)
			}
		}
	}
	if rest := plans[:len(before)+2][len(before):]; !same(rest[0], []api.Node{ref("none")}) || rest[1] != nil {
		t.Error("what is behind the plans is changed")
	}
	held := good()
	held.First = append(held.First, 0)[:2]
	held.P = append(held.P, api.Pos{})[:3]
	for i := range held.P {
		held.P[i].Next = append(held.P[i].Next, -1)[:len(held.P[i].Next)]
	}
	if !glush.Right(held) || !samePlaces(held, good()) {
		t.Error("Right reads or changes what it must not")
	}
}

// DOC.md, Rules 5: what is answered shares nothing with what is handed in, nor with other answers, nor one of its lists with another one.
func TestAnswersAreNew(t *testing.T) {
	for _, patterns := range [][]string{{"a"}, {"a*"}, {"(a|b)*c{2}"}, {"(a*)*", "(b|c)(d|e)", "f"}, {"(a*b*)*", "(a{2}|b)*"}} {
		plans := parsed(t, patterns...)
		before := parsed(t, patterns...)
		first, _ := glush.Of(plans...)
		second, _ := glush.Of(plans...)
		want := copiedPlaces(second)
		lists := [][]int{first.First}
		for _, p := range first.P {
			lists = append(lists, p.Next)
		}
		for i, l := range lists {
			// Each list is spoilt alone, and up to its capacity: no other one may be changed by that.
			var others [][]int
			for _, other := range lists {
				others = append(others, slices.Clone(other))
			}
			for k := range l[:cap(l)] {
				l[:cap(l)][k] = -5 - i
			}
			for k := range lists {
				if k != i && !slices.Equal(lists[k], others[k]) {
					t.Errorf("%q: the lists %d and %d share", patterns, i, k)
				}
			}
		}
		for i := range first.P[:cap(first.P)] {
			first.P[:cap(first.P)][i] = api.Pos{Lo: -9}
		}
		again, e := glush.Of(plans...)
		if e != api.OK || !samePlaces(second, want) || !samePlaces(again, want) {
			t.Errorf("%q: an answer is shared", patterns)
		}
		for i := range plans {
			if !same(plans[i], before[i]) {
				t.Errorf("%q: a plan is shared", patterns)
			}
		}
	}
}
