package norm_test

import (
	"slices"
	"testing"

	"raddle/api"
	"raddle/norm"
	"raddle/print"
	"raddle/syntax"
)

func empty() api.Node { return api.Node{Op: api.Empty} }

// bytes is a node of the bytes for which in holds.
func bytes(in func(b int) bool) api.Node {
	var s api.Set
	for b := range 256 {
		if in(b) {
			s[b/64] |= 1 << (b % 64)
		}
	}
	return api.Node{Op: api.Bytes, S: s}
}

func one(c byte) api.Node { return bytes(func(b int) bool { return b == int(c) }) }

func cat(kids ...int) api.Node { return api.Node{Op: api.Cat, L: kids} }

func alt(kids ...int) api.Node { return api.Node{Op: api.Alt, L: kids} }

func rep(kid, lo, hi int) api.Node {
	return api.Node{Op: api.Rep, L: []int{kid}, Lo: lo, Hi: hi}
}

func ref(name string) api.Node { return api.Node{Op: api.Ref, Name: name} }

func def(name string, l ...api.Node) api.Def { return api.Def{Name: name, L: l} }

// model walks by the chapter's own words: from the root down, node by node, and the first error ends it.
type model struct {
	defs   []api.Def
	walked []string
	result []api.Node
	wrong  api.Errno
}

// walk puts the node at a place of a tree, and what is below it, and tells where it is in the result.
func (m *model) walk(l []api.Node, place int) int {
	n := l[place]
	if n.Op == api.Ref {
		return m.name(n.Name)
	}
	kids := []int{}
	for _, k := range n.L {
		at := m.walk(l, k)
		if m.wrong != 0 {
			return 0
		}
		kids = append(kids, at)
	}
	if len(m.result) >= 1024 {
		m.wrong = 3
		return 0
	}
	m.result = append(m.result, api.Node{Op: n.Op, S: n.S, L: kids, Lo: n.Lo, Hi: n.Hi})
	return len(m.result) - 1
}

func (m *model) name(name string) int {
	at := slices.IndexFunc(m.defs, func(d api.Def) bool { return d.Name == name })
	if at < 0 {
		m.wrong = 60
		return 0
	}
	if slices.Contains(m.walked, name) {
		m.wrong = 61
		return 0
	}
	m.walked = append(m.walked, name)
	tree := m.defs[at].L
	root := m.walk(tree, len(tree)-1)
	m.walked = m.walked[:len(m.walked)-1]
	return root
}

// expansion says by the chapter's own words what Expand tells of a tree and Defs that are right.
func expansion(l []api.Node, defs []api.Def) ([]api.Node, api.Errno) {
	m := model{defs: defs}
	m.walk(l, len(l)-1)
	if m.wrong != 0 {
		return nil, m.wrong
	}
	return m.result, 0
}

// rightDefs says by the chapter's own words whether Defs are right.
func rightDefs(defs []api.Def) bool {
	for i, d := range defs {
		if !syntax.Name(d.Name) || !syntax.Right(d.L) {
			return false
		}
		for _, other := range defs[i+1:] {
			if other.Name == d.Name {
				return false
			}
		}
	}
	return true
}

// nothing says by the chapter's own words whether the node at a place may be nothing.
func nothing(l []api.Node, place int) bool {
	n := l[place]
	may := 0
	for _, k := range n.L {
		if nothing(l, k) {
			may++
		}
	}
	return n.Op == api.Empty || n.Op == api.Cat && may == len(n.L) || n.Op == api.Alt && may > 0 || n.Op == api.Rep && (n.Lo == 0 || may == 1)
}

// foldedSet has of each letter both cases.
func foldedSet(s api.Set) api.Set {
	has := func(b int) bool { return b >= 0 && b < 256 && s[b/64]>>(b%64)&1 == 1 }
	return bytes(func(b int) bool {
		small, great := b >= 97 && b <= 122, b >= 65 && b <= 90
		return has(b) || small && has(b-32) || great && has(b+32)
	}).S
}

func sameNode(a, b api.Node) bool {
	return a.Op == b.Op && a.S == b.S && slices.Equal(a.L, b.L) && a.Lo == b.Lo && a.Hi == b.Hi && a.Name == b.Name
}

func same(a, b []api.Node) bool { return slices.EqualFunc(a, b, sameNode) }

// copied is nodes that share nothing with others.
func copied(l []api.Node) []api.Node {
	c := slices.Clone(l)
	for i := range c {
		c[i].L = slices.Clone(c[i].L)
	}
	return c
}

func copiedDefs(defs []api.Def) []api.Def {
	c := slices.Clone(defs)
	for i := range c {
		c[i].L = copied(c[i].L)
	}
	return c
}

// parsed is what Parse tells of a pattern that must be one.
func parsed(t *testing.T, s string) []api.Node {
	t.Helper()
	l, at, e := syntax.Parse(s)
	if len(l) == 0 || at != 0 || e != api.OK {
		t.Fatalf("%.60q of %d bytes: %d nodes, at %d: %d", s, len(s), len(l), at, e)
	}
	return l
}

// named is what names stand for, by pairs of a name and a pattern.
func named(t *testing.T, pairs ...string) []api.Def {
	t.Helper()
	var defs []api.Def
	for i := 0; i < len(pairs); i += 2 {
		defs = append(defs, api.Def{Name: pairs[i], L: parsed(t, pairs[i+1])})
	}
	return defs
}

// text is a tree as a pattern; of no nodes "none".
func text(t *testing.T, l []api.Node) string {
	t.Helper()
	if len(l) == 0 {
		return "none"
	}
	s, ok := print.Tree(l)
	if !ok {
		t.Fatal("no tree:", l)
	}
	return s
}

// expanded is what Expand tells, held against the chapter's words, and against what follows from them.
func expanded(t *testing.T, l []api.Node, defs []api.Def) ([]api.Node, api.Errno) {
	t.Helper()
	got, e := norm.Expand(l, defs)
	want, wrong := expansion(l, defs)
	if e != wrong || !same(got, want) {
		t.Fatalf("%v with %v: %v, %d; it must be %v, %d", l, defs, got, e, want, wrong)
	}
	if e != api.OK {
		return got, e
	}
	if !syntax.Right(got) || slices.ContainsFunc(got, func(n api.Node) bool { return n.Op == api.Ref || n.Name != "" }) {
		t.Fatalf("%v with %v: %v is no tree without names", l, defs, got)
	}
	for _, others := range [][]api.Def{defs, nil} {
		if again, e := norm.Expand(got, others); e != api.OK || !same(again, got) {
			t.Fatalf("%v: expanded again %v, %d", got, again, e)
		}
	}
	return got, e
}
