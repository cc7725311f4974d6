package plan_test

import (
	"slices"
	"strings"
	"testing"

	"raddle/api"
	"raddle/lang"
	"raddle/plan"
	"raddle/syntax"
)

// drawer draws numbers by a rule, so that each run draws the same ones.
type drawer uint64

func (d *drawer) below(n int) int {
	*d = *d*6364136223846793005 + 1442695040888963407
	return int(uint64(*d) >> 33 % uint64(n))
}

// tree draws a tree of some size, of bounds up to some number: nodes whose kids are the last ones without a parent, and at the end one for all that are left.
func (d *drawer) tree(size, bound int) []api.Node {
	var l []api.Node
	var orphans []int
	for len(l) < size-1 {
		n := d.leaf()
		many := 0
		switch kind := d.below(10); {
		case len(orphans) > 1 && kind < 2:
			many = 2 + d.below(min(len(orphans)-1, 3))
			n = api.Node{Op: []uint8{api.Cat, api.Alt}[d.below(2)]}
		case len(orphans) > 0 && kind < 6:
			many = 1
			n = d.repetition(bound)
		}
		rest := len(orphans) - many
		n.L = slices.Clone(orphans[rest:])
		orphans = append(orphans[:rest], len(l))
		l = append(l, n)
	}
	switch {
	case len(l) == 0:
		return []api.Node{d.leaf()}
	case len(orphans) == 1:
		return l
	}
	return append(l, api.Node{Op: []uint8{api.Cat, api.Alt}[d.below(2)], L: orphans})
}

func (d *drawer) repetition(bound int) api.Node {
	hi := 1 + d.below(bound)
	n := api.Node{Op: api.Rep, Lo: d.below(hi + 1), Hi: hi}
	switch d.below(6) {
	case 0, 1:
		n.Hi = -1
	case 2:
		n.Lo = hi
	}
	return n
}

func (d *drawer) leaf() api.Node {
	switch d.below(6) {
	case 0:
		return empty()
	case 1:
		n := one('a')
		n.S[1] |= one('b').S[1]
		return n
	}
	return one(byte('a' + d.below(2)))
}

func (d *drawer) text(most int) string {
	var b strings.Builder
	for range d.below(most + 1) {
		b.WriteByte("aaaabbbc"[d.below(8)])
	}
	return b.String()
}

// P8.1, P8.2, P8.3: all trees of a few nodes, with small bounds, in a few texts.
func TestAllShort(t *testing.T) {
	leaves := []api.Node{empty(), one('a'), one('b')}
	reps := []api.Node{rep(0, 0, -1), rep(0, 1, -1), rep(0, 2, -1), rep(0, 3, -1), rep(0, 0, 1), rep(0, 1, 1), rep(0, 0, 2), rep(0, 1, 2), rep(0, 2, 2), rep(0, 1, 3), rep(0, 3, 3)}
	trees, right := 0, 0
	var grow func(l []api.Node, orphans []int)
	grow = func(l []api.Node, orphans []int) {
		if len(orphans) == 1 {
			c := copied(l)
			if holdRight(t, c) {
				right++
			}
			for most := 1; most <= 3; most++ {
				if p, e := planned(t, c, most); e == api.OK {
					means(t, c, p, "aabab")
				}
			}
			trees++
		}
		if len(l) == 4 {
			return
		}
		put := func(n api.Node, many int) {
			rest := len(orphans) - many
			n.L = append([]int(nil), orphans[rest:]...)
			grow(append(l[:len(l):len(l)], n), append(orphans[:rest:rest], len(l)))
		}
		for _, n := range leaves {
			put(n, 0)
		}
		for many := 1; many <= len(orphans); many++ {
			if many == 1 {
				for _, n := range reps {
					put(n, 1)
				}
				continue
			}
			put(cat(), many)
			put(alt(), many)
		}
	}
	grow(nil, nil)
	if trees < 5000 || right < 200 {
		t.Error("trees, and right ones:", trees, right)
	}
}

// P8.2, P8.3: trees of many shapes, drawn by a rule; a plan means what its tree does.
func TestMixed(t *testing.T) {
	d := drawer(8)
	long, short, counted, ends := 0, 0, 0, 0
	for i := range 6000 {
		l := d.tree(1+d.below(6+i%30), 1+d.below(6))
		if !syntax.Right(l) {
			t.Fatal("not right:", l)
		}
		holdRight(t, l)
		p, e := planned(t, l, 1+d.below(5))
		if e != api.OK {
			long++
			continue
		}
		short++
		counted += plan.Counted(p)
		ends += means(t, l, p, d.text(3+i%9))
	}
	if long < 200 || short < 2000 || counted < 2000 || ends < 10000 {
		t.Error("too long, others, counted, ends:", long, short, counted, ends)
	}
}

// P8.2, P8.3: bounds of every size.
func TestMixedBounds(t *testing.T) {
	d := drawer(88)
	came := map[api.Errno]int{}
	for i := range 3000 {
		l := d.tree(1+d.below(4+i%20), []int{9, 60, 600, 4096}[i%4])
		most := 1 + d.below([]int{4096, 9, 60, 600}[i/4%4])
		_, e := planned(t, l, most)
		came[e]++
	}
	if came[api.OK] < 300 || came[api.ErrLong] < 300 {
		t.Error("errors:", came)
	}
}

// P8.3: what means the same with each most.
func TestMeansWithEachMost(t *testing.T) {
	d := drawer(31)
	w := strings.Repeat("a", 40) + "b" + strings.Repeat("ab", 30) + strings.Repeat("b", 20)
	for _, s := range []string{"a{2}", "a{0,2}", "[ab]{2,9}", "a{5,}", "a{0,30}b?", "a{10,20}", "(a{3,7}b{0,2})*", "(a{0,12}|b{9,}){2,3}", "(a|b){7,11}", "([ab]{20}|a)*b", "((ab){2}|b{4,6}){1,}", "a{38,41}b|a{39,}", "(a{2,3}){2,4}", "a{17,}b{1,3}a?"} {
		l := parsed(t, s)
		ends := 0
		for _, most := range []int{1, 2, 3, 5, 9, 12, 29, 30, 37, 38, 41, 100, 4096} {
			p, e := planned(t, l, most)
			if e != api.OK {
				t.Errorf("%q with %d: %d", s, most, e)
				continue
			}
			ends += means(t, l, p, w) + means(t, l, p, d.text(60))
		}
		if ends == 0 {
			t.Errorf("%q: no end", s)
		}
	}
}

// P8.3: the greatest bounds mean what they say, counted ones too.
func TestMeansGreatest(t *testing.T) {
	w := strings.Repeat("a", 4100)
	for _, s := range []string{"a{4096}", "a{0,4096}", "a{4000,4096}", "a{4096,}", "a{1,4095}"} {
		l := parsed(t, s)
		p, e := planned(t, l, 4)
		if e != api.OK {
			t.Errorf("%q: %d", s, e)
		}
		for _, from := range []int{0, 3, 4, 5, 4000, 4100} {
			if got, want := lang.Ends(p, w, from), lang.Ends(l, w, from); !slices.Equal(got, want) {
				t.Errorf("%q from %d: %d ends, not %d", s, from, len(got), len(want))
			}
		}
	}
}

// others is a tree of which those bounds that are above a number are others above it.
func (d *drawer) others(l []api.Node, most int) []api.Node {
	c := copied(l)
	for i, n := range c {
		if n.Op != api.Rep || l[n.L[0]].Op != api.Bytes {
			continue
		}
		if n.Hi > most {
			c[i].Hi = most + 1 + d.below(api.MaxCount-most)
		}
		switch {
		case n.Lo <= most:
		case n.Hi < 0:
			c[i].Lo = most + 1 + d.below(api.MaxCount-most)
		default:
			c[i].Lo = most + 1 + d.below(c[i].Hi-most)
		}
	}
	return c
}

// unbound is a tree without the bounds of what is counted.
func unbound(l []api.Node) []api.Node {
	c := copied(l)
	for i, n := range c {
		if n.Op == api.Rep && n.Hi > 0 {
			c[i].Lo, c[i].Hi = 0, 0
		}
	}
	return c
}

// P8.3: bounds above most that are others change nothing but these bounds.
func TestOtherBounds(t *testing.T) {
	d := drawer(4)
	changed := 0
	for i := range 4000 {
		most := 1 + d.below(12)
		l := d.tree(1+d.below(4+i%16), 1+d.below(20))
		other := d.others(l, most)
		if !syntax.Right(other) {
			t.Fatal("not right:", other)
		}
		p, e := planned(t, l, most)
		q, f := planned(t, other, most)
		if e != f || !same(unbound(p), unbound(q)) {
			t.Fatalf("%q with %d: %q, %d; %q: %q, %d", shown(l), most, shown(p), e, shown(other), shown(q), f)
		}
		if !same(p, q) {
			changed++
		}
	}
	if changed < 500 {
		t.Error("plans of other bounds:", changed)
	}
	for pattern, other := range map[string]string{"a{9}": "a{4}", "a{2,9}": "a{2,4096}", "a{0,4}": "a{0,77}", "a{4,}": "a{4096,}", "(a{5}|b)+": "(a{6}|b)+"} {
		p, _ := planned(t, parsed(t, pattern), 3)
		q, _ := planned(t, parsed(t, other), 3)
		if len(p) == 0 || same(p, q) || !same(unbound(p), unbound(q)) {
			t.Errorf("%q: %q; %q: %q", pattern, shown(p), other, shown(q))
		}
	}
}

// DOC.md, Rules 4: what is handed in is not changed, and nothing behind a list's length is read.
func TestArgumentsStay(t *testing.T) {
	for _, s := range []string{"(a{2,9}|b{5,}){1,2}(c{0,9}|[^c])?d*", "(a{2}|b*)*c{3}"} {
		l := parsed(t, s)
		for m := range len(l) + 1 {
			c := copied(l[:m])
			for i := range c {
				c[i].L = append(slices.Clone(c[i].L), 7, 8, 9)[:len(c[i].L)]
			}
			c = append(c, one('r'), ref("none"))[:m]
			for _, most := range []int{0, 1, 3, 4096} {
				got, e := plan.Tree(c, most)
				want, wrong := plan.Tree(copied(l[:m]), most)
				if e != wrong || !same(got, want) || plan.Right(c) != plan.Right(copied(l[:m])) || plan.Counted(c) != plan.Counted(copied(l[:m])) {
					t.Error("what is behind the length tells", m, most)
				}
			}
			for i, n := range c {
				if !sameNode(n, l[i]) || !slices.Equal(n.L[:len(n.L)+3][len(n.L):], []int{7, 8, 9}) {
					t.Error("changed", m, i)
				}
			}
			if !same(c[:m+2][m:], []api.Node{one('r'), ref("none")}) {
				t.Error("what is behind is changed", m)
			}
		}
	}
}

// DOC.md, Rules 5: what is answered shares nothing with what is handed in, nor with other answers.
func TestAnswersAreNew(t *testing.T) {
	for _, s := range []string{"a", "ab|c", "(a|b{9})*", "(ab{2,9}){3}", "(a|b){0,3}", "(ab){2,}c{5,}"} {
		l := parsed(t, s)
		before := copied(l)
		first, _ := plan.Tree(l, 3)
		second, _ := plan.Tree(l, 3)
		want := copied(second)
		for i := range first {
			// Each list is spoilt alone, and up to its capacity: no other one may be changed by that.
			rest := copied(first)
			list := first[i].L[:cap(first[i].L)]
			for k := range list {
				list[k] = -5
			}
			for k := range first {
				if k > i && !sameNode(first[k], rest[k]) {
					t.Errorf("%q: the lists at %d and %d share", s, i, k)
				}
			}
		}
		for i := range first[:cap(first)] {
			first[:cap(first)][i] = api.Node{Op: 99}
		}
		again, e := plan.Tree(l, 3)
		if e != api.OK || !same(second, want) || !same(l, before) || !same(again, want) {
			t.Errorf("%q: an answer is shared", s)
		}
	}
}
