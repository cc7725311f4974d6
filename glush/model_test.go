package glush_test

import (
	"maps"
	"slices"
	"strconv"
	"strings"
	"testing"

	"raddle/api"
	"raddle/glush"
	"raddle/lang"
	"raddle/norm"
	"raddle/plan"
	"raddle/print"
	"raddle/syntax"
)

func empty() api.Node { return api.Node{Op: api.Empty} }

func one(c byte) api.Node { return api.Node{Op: api.Bytes, S: only(c)} }

func only(c byte) api.Set {
	var s api.Set
	s[c/64] = 1 << (c % 64)
	return s
}

func cat(kids ...int) api.Node { return api.Node{Op: api.Cat, L: kids} }

func alt(kids ...int) api.Node { return api.Node{Op: api.Alt, L: kids} }

func rep(kid, lo, hi int) api.Node {
	return api.Node{Op: api.Rep, L: []int{kid}, Lo: lo, Hi: hi}
}

func star(kid int) api.Node { return rep(kid, 0, -1) }

func ref(name string) api.Node { return api.Node{Op: api.Ref, Name: name} }

func sameNode(a, b api.Node) bool {
	return a.Op == b.Op && a.S == b.S && slices.Equal(a.L, b.L) && a.Lo == b.Lo && a.Hi == b.Hi && a.Name == b.Name
}

func same(a, b []api.Node) bool { return slices.EqualFunc(a, b, sameNode) }

func samePos(a, b api.Pos) bool {
	return a.S == b.S && a.Lo == b.Lo && a.Hi == b.Hi && a.Rule == b.Rule && a.Last == b.Last && slices.Equal(a.Next, b.Next)
}

func samePlaces(a, b api.Glush) bool {
	return slices.Equal(a.First, b.First) && slices.EqualFunc(a.P, b.P, samePos)
}

// copied is nodes that share nothing with others.
func copied(l []api.Node) []api.Node {
	c := slices.Clone(l)
	for i := range c {
		c[i].L = slices.Clone(c[i].L)
	}
	return c
}

// copiedPlaces is places that share nothing with others.
func copiedPlaces(g api.Glush) api.Glush {
	c := api.Glush{First: slices.Clone(g.First), P: slices.Clone(g.P)}
	for i := range c.P {
		c.P[i].Next = slices.Clone(c.P[i].Next)
	}
	return c
}

// parsed is the trees of patterns that are plans as they stand.
func parsed(t *testing.T, patterns ...string) [][]api.Node {
	t.Helper()
	var plans [][]api.Node
	for _, s := range patterns {
		l, _, e := syntax.Parse(s)
		if e != api.OK || !plan.Right(l) {
			t.Fatalf("%.60q is no plan: %d", s, e)
		}
		plans = append(plans, l)
	}
	return plans
}

// shownPlans is plans as patterns.
func shownPlans(plans [][]api.Node) string {
	var all []string
	for _, l := range plans {
		s, ok := print.Tree(l)
		if !ok {
			s = "none"
		}
		all = append(all, strconv.Quote(s))
	}
	return strings.Join(all, ", ")
}

func numbers(l []int) string {
	var all []string
	for _, n := range l {
		all = append(all, strconv.Itoa(n))
	}
	return strings.Join(all, ",")
}

// shown is places as a text: those that are first, a colon, and of each its rule and a colon (but of rule 0), its bytes, its bounds (but 1 and 1), a ! if it is last, and which ones may follow.
func shown(g api.Glush) string {
	var b strings.Builder
	b.WriteString(numbers(g.First) + ":")
	for _, p := range g.P {
		b.WriteByte(' ')
		if p.Rule != 0 {
			b.WriteString(strconv.Itoa(p.Rule) + ":")
		}
		b.WriteString(print.Set(p.S))
		if p.Lo != 1 || p.Hi != 1 {
			b.WriteString("{" + numbers([]int{p.Lo, p.Hi}) + "}")
		}
		if p.Last {
			b.WriteByte('!')
		}
		if len(p.Next) > 0 {
			b.WriteString(">" + numbers(p.Next))
		}
	}
	return b.String()
}

// set is places of which none is twice.
type set map[int]struct{}

func (s set) put(others set) { maps.Copy(s, others) }

func (s set) rising() []int { return slices.Sorted(maps.Keys(s)) }

// model is what the chapter's own words say of each node of one plan: which place it is, if it is one, whether it may be nothing, and its first and last places.
type model struct {
	l           []api.Node
	place       map[int]int
	nothing     []bool
	first, last []set
}

func isCounted(n api.Node) bool { return n.Op == api.Rep && n.Hi != -1 }

func modelled(l []api.Node, place map[int]int) model {
	m := model{l: l, place: place}
	var size []int
	for i, n := range l {
		many := 1
		for _, k := range n.L {
			many += size[k]
		}
		size = append(size, many)
		m.nothing = append(m.nothing, norm.Nullable(below(l, i+1-many, i)))
		m.first = append(m.first, m.ends(i, n.L, m.first))
		back := slices.Clone(n.L)
		slices.Reverse(back)
		m.last = append(m.last, m.ends(i, back, m.last))
	}
	return m
}

// below is the tree whose root is a node, from its first node on.
func below(l []api.Node, from, root int) []api.Node {
	tree := copied(l[from : root+1])
	for i := range tree {
		for j := range tree[i].L {
			tree[i].L[j] -= from
		}
	}
	return tree
}

// ends is the first places of a node, or the last ones: its kids come in order, or from the last one back, with those of theirs that are told.
func (m model) ends(node int, kids []int, told []set) set {
	if p, ok := m.place[node]; ok {
		return set{p: {}}
	}
	all := set{}
	for _, k := range kids {
		all.put(told[k])
		if m.l[node].Op == api.Cat && !m.nothing[k] {
			break
		}
	}
	return all
}

// follow puts what follows in a node, of its own.
func (m model) follow(node int, next []set) {
	behind := func(a, b int) {
		for p := range m.last[a] {
			next[p].put(m.first[b])
		}
	}
	switch n := m.l[node]; {
	case n.Op == api.Cat:
		for i := range n.L {
			for j := i + 1; j < len(n.L); j++ {
				behind(n.L[i], n.L[j])
				if !m.nothing[n.L[j]] {
					break
				}
			}
		}
	case n.Op == api.Rep && n.Hi == -1:
		behind(n.L[0], n.L[0])
	}
}

// modelOf says by the chapter's own words what Of tells.
func modelOf(plans ...[]api.Node) (api.Glush, api.Errno) {
	if len(plans) > 512 {
		return api.Glush{}, 1
	}
	var g api.Glush
	var models []model
	for rule, l := range plans {
		if !plan.Right(l) {
			return api.Glush{}, 1
		}
		place := map[int]int{}
		kids := set{}
		for _, n := range l {
			if isCounted(n) {
				kids[n.L[0]] = struct{}{}
			}
		}
		for i, n := range l {
			_, kid := kids[i]
			switch {
			case n.Op == api.Bytes && !kid:
				place[i] = len(g.P)
				g.P = append(g.P, api.Pos{S: n.S, Lo: 1, Hi: 1, Rule: rule})
			case isCounted(n):
				place[i] = len(g.P)
				g.P = append(g.P, api.Pos{S: l[n.L[0]].S, Lo: n.Lo, Hi: n.Hi, Rule: rule})
			}
		}
		models = append(models, modelled(l, place))
	}
	if len(g.P) > 512 {
		return api.Glush{}, 3
	}
	first, next := set{}, make([]set, len(g.P))
	for i := range next {
		next[i] = set{}
	}
	for _, m := range models {
		root := len(m.l) - 1
		first.put(m.first[root])
		for p := range m.last[root] {
			g.P[p].Last = true
		}
		for i := range m.l {
			m.follow(i, next)
		}
	}
	for i := range next {
		g.P[i].Next = next[i].rising()
	}
	g.First = first.rising()
	return g, 0
}

// rightByWords says by the chapter's own words what Right tells.
func rightByWords(g api.Glush) bool {
	rises := func(l []int) bool {
		for i, p := range l {
			if p < 0 || p > len(g.P)-1 || i > 0 && p <= l[i-1] {
				return false
			}
		}
		return true
	}
	if len(g.P) > 512 || !rises(g.First) {
		return false
	}
	for _, p := range g.P {
		if p.S[0]|p.S[1]|p.S[2]|p.S[3] == 0 || !rises(p.Next) {
			return false
		}
		if p.Lo < 1 || p.Lo > p.Hi || p.Hi > 4096 || p.Rule < 0 || p.Rule > 511 {
			return false
		}
	}
	return true
}

// follows holds places against what must follow of them: they are right, and a place follows only one of the same rule.
func follows(t *testing.T, g api.Glush) {
	t.Helper()
	if !glush.Right(g) || !rightByWords(g) {
		t.Fatalf("not right: %.300s", shown(g))
	}
	for i, p := range g.P {
		for _, next := range p.Next {
			if g.P[next].Rule != p.Rule {
				t.Fatalf("%.300s: %d of rule %d follows %d of rule %d", shown(g), next, g.P[next].Rule, i, p.Rule)
			}
		}
	}
}

// placed is what Of tells, held against the chapter's words, and against what follows from them.
func placed(t *testing.T, plans ...[]api.Node) (api.Glush, api.Errno) {
	t.Helper()
	g, e := glush.Of(plans...)
	want, wrong := modelOf(plans...)
	if e != wrong || !samePlaces(g, want) {
		t.Fatalf("%.300s: %.300s, %d; it must be %.300s, %d", shownPlans(plans), shown(g), e, shown(want), wrong)
	}
	follows(t, g)
	return g, e
}

// at is a place, and how often that took a byte.
type at struct{ place, count int }

// step is where one may be behind one more byte: nil is the beginning.
func step(g api.Glush, here map[at]int, c byte) map[at]int {
	there := map[at]int{}
	enter := func(p, count int) {
		if g.P[p].S[c/64]>>(c%64)&1 == 1 {
			there[at{p, count}] = 1
		}
	}
	if here == nil {
		for _, p := range g.First {
			enter(p, 1)
		}
	}
	for a := range here {
		p := g.P[a.place]
		if a.count < p.Hi {
			enter(a.place, a.count+1)
		}
		if a.count >= p.Lo {
			for _, next := range p.Next {
				enter(next, 1)
			}
		}
	}
	return there
}

// means holds where the places of plans may end in a text against what the plans mean, and tells how many ends there are.
func means(t *testing.T, g api.Glush, plans [][]api.Node, w string) int {
	t.Helper()
	ends := make([][]int, len(plans))
	var here map[at]int
	for i := range len(w) {
		here = step(g, here, w[i])
		rules := set{}
		for a := range here {
			if p := g.P[a.place]; p.Last && a.count >= p.Lo {
				rules[p.Rule] = struct{}{}
			}
		}
		for rule := range rules {
			ends[rule] = append(ends[rule], i+1)
		}
	}
	many := 0
	for rule, l := range plans {
		want := slices.DeleteFunc(lang.Ends(l, w, 0), func(end int) bool { return end == 0 })
		if !slices.Equal(ends[rule], want) {
			t.Fatalf("%.300s in %q: rule %d ends at %v; it must be at %v", shownPlans(plans), w, rule, ends[rule], want)
		}
		many += len(want)
	}
	return many
}
