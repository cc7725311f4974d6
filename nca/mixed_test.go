package nca_test

import (
	"slices"
	"strings"
	"testing"

	"raddle/api"
	"raddle/nca"
)

// drawer draws numbers by a rule, so that each run draws the same ones.
type drawer uint64

func (d *drawer) below(n int) int {
	*d = *d*6364136223846793005 + 1442695040888963407
	return int(uint64(*d) >> 33 % uint64(n))
}

// tree draws a tree of some size, of bounds up to some number: nodes whose kids are the last ones without a parent, and at the end one for all that are left.
func (d *drawer) tree(size, bound int) []api.Node {
	var l []api.Node
	var orphans []int
	for len(l) < size-1 {
		n := d.leaf()
		many := 0
		switch kind := d.below(10); {
		case len(orphans) > 1 && kind < 2:
			many = 2 + d.below(min(len(orphans)-1, 3))
			n = api.Node{Op: []uint8{api.Cat, api.Alt}[d.below(2)]}
		case len(orphans) > 0 && kind < 5:
			many = 1
			n = d.repetition(bound)
		}
		rest := len(orphans) - many
		n.L = slices.Clone(orphans[rest:])
		orphans = append(orphans[:rest], len(l))
		l = append(l, n)
	}
	switch {
	case len(l) == 0:
		return []api.Node{d.leaf()}
	case len(orphans) == 1:
		return l
	}
	return append(l, api.Node{Op: []uint8{api.Cat, api.Alt}[d.below(2)], L: orphans})
}

func (d *drawer) repetition(bound int) api.Node {
	hi := 1 + d.below(bound)
	n := rep(0, d.below(hi+1), hi)
	switch d.below(6) {
	case 0, 1:
		n.Hi = -1
	case 2:
		n.Lo = hi
	}
	return n
}

func (d *drawer) leaf() api.Node {
	switch d.below(8) {
	case 0:
		return empty()
	case 1, 2:
		return api.Node{Op: api.Bytes, S: some('a', 'b')}
	}
	return one(byte('a' + d.below(2)))
}

func (d *drawer) text(most int) string {
	var b strings.Builder
	for range d.below(most + 1) {
		b.WriteByte("aaaaaaaabbbbbc"[d.below(14)])
	}
	return b.String()
}

// places draws places that are those of no plan, mostly.
func (d *drawer) places(many int) api.Glush {
	var g api.Glush
	g.First = d.rising(0, many-1)
	for range many {
		hi := 1 + d.below(5)
		set := []api.Set{some('a'), some('b'), some('a', 'b'), some('b', 'c')}[d.below(4)]
		g.P = append(g.P, api.Pos{S: set, Lo: 1 + d.below(hi), Hi: hi, Rule: d.below(4), Last: d.below(2) == 0, Next: d.rising(0, many-1)})
	}
	return g
}

// rising draws some of the numbers from one to another one.
func (d *drawer) rising(from, to int) []int {
	var l []int
	for n := from; n <= to; n++ {
		if d.below(3) == 0 {
			l = append(l, n)
		}
	}
	return l
}

// config draws where one may be at places.
func (d *drawer) config(g api.Glush) api.Config {
	var c api.Config
	for _, p := range d.rising(0, len(g.P)-1) {
		if counts := d.rising(1, g.P[p].Hi); len(counts) > 0 {
			c.L = append(c.L, held(p, counts...))
		}
	}
	return c
}

// spoilt is a Config with something changed, which may be right all the same.
func (d *drawer) spoilt(g api.Glush, c api.Config) api.Config {
	c = copiedConfig(c)
	if len(c.L) == 0 || d.below(8) == 0 {
		c.Begin = !c.Begin
		return c
	}
	h := &c.L[d.below(len(c.L))]
	switch d.below(5) {
	case 0:
		h.P += d.below(3) - 1
	case 1:
		h.N = slices.Insert(h.N, d.below(len(h.N)+1), d.below(8)-1)
	case 2:
		h.N = slices.Delete(h.N, 0, 1)
	case 3:
		c.L = slices.Insert(c.L, d.below(len(c.L)+1), held(d.below(len(g.P)+2)-1, 1))
	case 4:
		h.N[d.below(len(h.N))] += d.below(5) - 2
	}
	return c
}

// lists hands out all lists of the numbers from one to another one that rise.
func lists(from, to int, take func([]int)) {
	for picked := range 1 << (to - from + 1) {
		var l []int
		for n := from; n <= to; n++ {
			if picked>>(n-from)&1 == 1 {
				l = append(l, n)
			}
		}
		take(l)
	}
}

// pairs hands out two places of all kinds, with small bounds.
func pairs(take func(api.Glush)) {
	var kinds []api.Pos
	for _, s := range []api.Set{some('a'), some('a', 'b')} {
		for _, bounds := range [][2]int{{1, 1}, {1, 2}, {2, 3}} {
			for _, last := range []bool{false, true} {
				lists(0, 1, func(next []int) {
					kinds = append(kinds, api.Pos{S: s, Lo: bounds[0], Hi: bounds[1], Last: last, Next: next})
				})
			}
		}
	}
	for i, first := range kinds {
		for k, second := range kinds {
			first.Rule, second.Rule = i%3, k%2
			take(api.Glush{P: []api.Pos{first, second}})
		}
	}
}

// P10.1, P10.2, P10.3: two places of all kinds, with all counts that they may have.
func TestAllPairs(t *testing.T) {
	configs := 0
	pairs(func(g api.Glush) {
		lists(0, 1, func(first []int) {
			g.First = first
			hold(t, g, nca.Start(), "ab")
			configs++
		})
		lists(1, g.P[0].Hi, func(ofFirst []int) {
			lists(1, g.P[1].Hi, func(ofSecond []int) {
				var c api.Config
				for p, counts := range [][]int{ofFirst, ofSecond} {
					if len(counts) > 0 {
						c.L = append(c.L, held(p, counts...))
					}
				}
				if !hold(t, g, c, "ab") {
					t.Fatal("not right:", g, shown(c))
				}
				configs++
			})
		})
	})
	if configs < 50000 {
		t.Error("configs:", configs)
	}
}

// P10.1, P10.2, P10.3: all rows of up to three places that there are or are not, with some counts that may be or may not.
func TestAllRows(t *testing.T) {
	g := api.Glush{First: []int{0}, P: []api.Pos{
		{S: some('a'), Lo: 1, Hi: 1, Rule: 1, Last: true, Next: []int{1}},
		{S: some('a'), Lo: 2, Hi: 3, Last: true, Next: []int{0}},
	}}
	counts := [][]int{nil, {0}, {1}, {2}, {1, 2}, {2, 1}, {1, 1}, {3}, {4}}
	right, wrong := 0, 0
	var more func(l []api.Held)
	more = func(l []api.Held) {
		for _, begin := range []bool{false, true} {
			if hold(t, g, api.Config{Begin: begin, L: l}, "ab") {
				right++
			} else {
				wrong++
			}
		}
		if len(l) == 3 {
			return
		}
		for p := -1; p <= 2; p++ {
			for _, n := range counts {
				more(append(l[:len(l):len(l)], held(p, n...)))
			}
		}
	}
	more(nil)
	if right != 11 || wrong < 50000 {
		t.Error("right, and wrong:", right, wrong)
	}
}

// P10.1, P10.2, P10.3: drawn places, and drawn Configs of them, right and not; and texts from the beginning.
func TestMixedPlaces(t *testing.T) {
	d := drawer(10)
	right, wrong, ends := 0, 0, 0
	for i := range 3000 {
		g := d.places(1 + d.below(3+i%9))
		for range 6 {
			c := d.config(g)
			if !hold(t, g, c, "abcd") {
				t.Fatal("not right:", g, shown(c))
			}
			if hold(t, g, d.spoilt(g, c), "ab") {
				right++
			} else {
				wrong++
			}
		}
		w := d.text(12)
		walk(t, g, w)
		if _, _, ok := nca.Longest(g, w, 0); ok {
			ends++
		}
	}
	if right < 3000 || wrong < 3000 || ends < 500 {
		t.Error("right, wrong, ends:", right, wrong, ends)
	}
}

// P10.4: drawn trees, however many, with repetitions up to a drawn number written out, and what they mean in drawn texts.
func TestMixedMeans(t *testing.T) {
	d := drawer(104)
	held, ends := 0, 0
	for i := range 2500 {
		var trees [][]api.Node
		for range 1 + d.below(2+i%4) {
			trees = append(trees, d.tree(1+d.below(4+i%12), 1+d.below(5)))
		}
		for range 2 {
			g, ok := placed(t, trees, 1+d.below(5))
			if !ok || len(g.P) > 100 {
				continue
			}
			w := d.text(3 + i%12)
			ends += means(t, g, trees, w)
			walk(t, g, w)
			held++
		}
	}
	if held < 3000 || ends < 10000 {
		t.Error("held, and ends:", held, ends)
	}
}

// P10.4: all trees of a few nodes, counted or not, alone and in pairs.
func TestAllShort(t *testing.T) {
	leaves := []api.Node{empty(), one('a'), {Op: api.Bytes, S: some('a', 'b')}}
	reps := []api.Node{rep(0, 0, -1), rep(0, 2, -1), rep(0, 0, 2), rep(0, 2, 3), rep(0, 3, 3)}
	var all [][]api.Node
	var grow func(l []api.Node, orphans []int)
	grow = func(l []api.Node, orphans []int) {
		if len(orphans) == 1 {
			all = append(all, copied(l))
		}
		if len(l) == 4 {
			return
		}
		put := func(n api.Node, many int) {
			rest := len(orphans) - many
			n.L = append([]int(nil), orphans[rest:]...)
			grow(append(l[:len(l):len(l)], n), append(orphans[:rest:rest], len(l)))
		}
		for _, n := range leaves {
			put(n, 0)
		}
		for many := 1; many <= len(orphans); many++ {
			if many == 1 {
				for _, n := range reps {
					put(n, 1)
				}
				continue
			}
			put(cat(), many)
			put(alt(), many)
		}
	}
	grow(nil, nil)
	ends := 0
	for i, l := range all {
		for _, trees := range [][][]api.Node{{l}, {l, all[len(all)-1-i]}, {all[i*7%len(all)], l}} {
			for most := 1; most <= 3; most += 2 {
				g, ok := placed(t, trees, most)
				if !ok {
					t.Fatal("too long:", shownTrees(trees))
				}
				ends += means(t, g, trees, "aabaaaa")
			}
		}
	}
	if len(all) < 800 || ends < 20000 {
		t.Error("trees, and ends:", len(all), ends)
	}
}

// room is a list with others behind its length.
func room[T any](l []T, behind ...T) []T { return append(slices.Clone(l), behind...)[:len(l)] }

// roomy is places, and a Config, with others behind each list's length.
func roomy(g api.Glush, c api.Config) (api.Glush, api.Config) {
	g, c = copiedPlaces(g), copiedConfig(c)
	g.First = room(g.First, 0, 99)
	for i := range g.P {
		g.P[i].Next = room(g.P[i].Next, 0, 99)
	}
	g.P = room(g.P, api.Pos{Lo: -1}, good().P[0])
	for i := range c.L {
		c.L[i].N = room(c.L[i].N, 1, -7)
	}
	c.L = room(c.L, held(0, 1), held(-1))
	return g, c
}

// stay tells whether what roomy put is still there.
func stay(g api.Glush, c api.Config) bool {
	numbers := func(l []int, behind ...int) bool { return slices.Equal(l[len(l):len(l)+2], behind) }
	ok := numbers(g.First, 0, 99) && samePos(g.P[:len(g.P)+2][len(g.P)], api.Pos{Lo: -1}) && samePos(g.P[:len(g.P)+2][len(g.P)+1], good().P[0])
	for _, p := range g.P {
		ok = ok && numbers(p.Next, 0, 99)
	}
	for _, h := range c.L {
		ok = ok && numbers(h.N, 1, -7)
	}
	return ok && same(at(c.L[len(c.L):len(c.L)+2]...), at(held(0, 1), held(-1)))
}

// DOC.md, Rules 4: what is handed in is not changed, and nothing behind a list's length is read.
func TestArgumentsStay(t *testing.T) {
	d := drawer(4)
	check := func(before api.Glush, c api.Config) {
		t.Helper()
		g, here := roomy(before, c)
		if nca.Right(g, here) != nca.Right(before, c) || nca.Rule(g, here) != nca.Rule(before, c) {
			t.Fatal("what is behind the length tells:", before, shown(c))
		}
		for _, b := range []byte("ab\x00") {
			if !same(nca.Step(g, here, b), nca.Step(before, c, b)) {
				t.Fatal("what is behind the length tells of a step:", before, shown(c))
			}
		}
		to, rule, ok := nca.Longest(g, "aabba", 0)
		if wantTo, want, wantOK := nca.Longest(before, "aabba", 0); to != wantTo || rule != want || ok != wantOK {
			t.Fatal("what is behind the length tells how far:", before)
		}
		if !samePlaces(g, before) || !same(here, c) || !stay(g, here) {
			t.Fatal("changed:", before, shown(c))
		}
	}
	for _, c := range slices.Concat(rightConfigs(), wrongConfigs()) {
		check(good(), c)
	}
	for _, g := range wrongPlaces() {
		check(g, at(held(0, 1), held(1, 1, 2)))
	}
	for range 500 {
		g := d.places(1 + d.below(6))
		check(g, d.config(g))
	}
}

// DOC.md, Rules 5: what is answered shares nothing with what is handed in, nor with other answers, nor one of its lists with another one.
func TestAnswersAreNew(t *testing.T) {
	d := drawer(6)
	lists := 0
	for range 500 {
		before := d.places(1 + d.below(6))
		from := d.config(before)
		g, here := copiedPlaces(before), copiedConfig(from)
		first, second := nca.Step(g, here, 'b'), nca.Step(g, here, 'b')
		want := copiedConfig(second)
		for i, h := range first.L {
			// Each list is spoilt alone, and up to its capacity: no other one may be changed by that.
			others := copiedConfig(first)
			for k := range h.N[:cap(h.N)] {
				h.N[:cap(h.N)][k] = -5
			}
			others.L[i].N = slices.Clone(h.N)
			if !same(first, others) {
				t.Fatal("lists share:", before, shown(from))
			}
			lists++
		}
		for i := range first.L[:cap(first.L)] {
			first.L[:cap(first.L)][i] = held(-9)
		}
		if !same(second, want) || !samePlaces(g, before) || !same(here, from) || !same(nca.Step(g, here, 'b'), want) {
			t.Fatal("an answer is shared:", before, shown(from))
		}
	}
	if lists < 300 {
		t.Error("lists:", lists)
	}
}

// DOC.md, Rules 3: a list that is empty is as one that is nil.
func TestEmptyLists(t *testing.T) {
	g := good()
	g.First, g.P[0].Next = []int{}, []int{}
	begin, none := api.Config{Begin: true, L: []api.Held{}}, at([]api.Held{}...)
	none.L = []api.Held{}
	if !nca.Right(g, begin) || !nca.Right(g, none) || !nca.Right(api.Glush{First: []int{}, P: []api.Pos{}}, none) {
		t.Error("not right")
	}
	if c := nca.Step(g, begin, 'a'); !same(c, api.Config{}) {
		t.Error("nothing is first:", shown(c))
	}
	if c := nca.Step(good(), begin, 'a'); shown(c) != "0:1 2:1" {
		t.Error("from the beginning:", shown(c))
	}
	if c := nca.Step(g, at(held(0, 1)), 'a'); !same(c, api.Config{}) {
		t.Error("nothing may follow:", shown(c))
	}
	if nca.Rule(g, begin) != -1 || nca.Rule(g, none) != -1 {
		t.Error("a rule")
	}
	if nca.Right(g, at(api.Held{N: []int{}})) || nca.Step(g, at(api.Held{N: []int{}}), 'a').L != nil || nca.Rule(g, at(api.Held{N: []int{}})) != -1 {
		t.Error("a place without a count")
	}
}
