package plan_test

import (
	"slices"
	"testing"

	"raddle/api"
	"raddle/lang"
	"raddle/plan"
	"raddle/print"
	"raddle/syntax"
)

func empty() api.Node { return api.Node{Op: api.Empty} }

func one(c byte) api.Node {
	var s api.Set
	s[c/64] = 1 << (c % 64)
	return api.Node{Op: api.Bytes, S: s}
}

func cat(kids ...int) api.Node { return api.Node{Op: api.Cat, L: kids} }

func alt(kids ...int) api.Node { return api.Node{Op: api.Alt, L: kids} }

func rep(kid, lo, hi int) api.Node {
	return api.Node{Op: api.Rep, L: []int{kid}, Lo: lo, Hi: hi}
}

func ref(name string) api.Node { return api.Node{Op: api.Ref, Name: name} }

func sameNode(a, b api.Node) bool {
	return a.Op == b.Op && a.S == b.S && slices.Equal(a.L, b.L) && a.Lo == b.Lo && a.Hi == b.Hi && a.Name == b.Name
}

func same(a, b []api.Node) bool { return slices.EqualFunc(a, b, sameNode) }

// copied is nodes that share nothing with others.
func copied(l []api.Node) []api.Node {
	c := slices.Clone(l)
	for i := range c {
		c[i].L = slices.Clone(c[i].L)
	}
	return c
}

// parsed is what Parse tells of a pattern that must be one.
func parsed(t *testing.T, s string) []api.Node {
	t.Helper()
	l, at, e := syntax.Parse(s)
	if len(l) == 0 || at != 0 || e != api.OK {
		t.Fatalf("%.60q of %d bytes: %d nodes, at %d: %d", s, len(s), len(l), at, e)
	}
	return l
}

// shown is a tree as a pattern; of no tree "none".
func shown(l []api.Node) string {
	s, ok := print.Tree(l)
	if !ok {
		return "none"
	}
	return s
}

// shape is a node with its kids in it, and how many nodes that is in all, or tooMany. A shape may be the kid of many.
type shape struct {
	n    api.Node
	kids []*shape
	size int
}

const tooMany = 1025

func made(n api.Node, kids ...*shape) *shape {
	n.L = nil
	s := &shape{n, kids, 1}
	for _, k := range kids {
		s.size = min(tooMany, s.size+k.size)
	}
	return s
}

// nodes puts a shape's nodes behind others, in the order in which they end.
func (s *shape) nodes(all []api.Node) []api.Node {
	n := s.n
	for _, k := range s.kids {
		all = k.nodes(all)
		n.L = append(n.L, len(all)-1)
	}
	return append(all, n)
}

// shapeOf says by the chapter's own words what the plan of a node is, its kids' plans are told.
func shapeOf(l []api.Node, place, most int, told []*shape) *shape {
	n := l[place]
	if n.Op != 5 {
		var kids []*shape
		for _, k := range n.L {
			kids = append(kids, told[k])
		}
		return made(n, kids...)
	}
	k := told[n.L[0]]
	isBytes := l[n.L[0]].Op == 2
	nothing := made(empty())
	star := made(api.Node{Op: 5, Lo: 0, Hi: -1}, k)
	if isBytes && n.Hi > most {
		if n.Lo == 0 {
			return made(alt(), nothing, made(api.Node{Op: 5, Lo: 1, Hi: n.Hi}, k))
		}
		return made(api.Node{Op: 5, Lo: n.Lo, Hi: n.Hi}, k)
	}
	if isBytes && n.Hi == -1 && n.Lo > most && n.Lo > 1 {
		return made(cat(), made(api.Node{Op: 5, Lo: n.Lo, Hi: n.Lo}, k), star)
	}
	row := []*shape{}
	for i := 0; i < n.Lo; i++ {
		row = append(row, k)
	}
	if n.Hi == -1 {
		row = append(row, star)
	} else if n.Hi > n.Lo {
		rest := made(alt(), nothing, k)
		for i := 1; i < n.Hi-n.Lo; i++ {
			rest = made(alt(), nothing, made(cat(), k, rest))
		}
		row = append(row, rest)
	}
	if len(row) == 1 {
		return row[0]
	}
	return made(cat(), row...)
}

// planOf says by the chapter's own words what Tree tells of a tree without Refs, and of a bound that may be.
func planOf(l []api.Node, most int) ([]api.Node, api.Errno) {
	var told []*shape
	for i := range l {
		s := shapeOf(l, i, most, told)
		if s.size == tooMany {
			// Whatever is above has this plan in its own.
			return nil, 3
		}
		told = append(told, s)
	}
	return told[len(l)-1].nodes(nil), 0
}

// rightCounted says by the chapter's own words what Right and Counted tell.
func rightCounted(l []api.Node) (bool, int) {
	if !syntax.Right(l) {
		return false, 0
	}
	many := 0
	for _, n := range l {
		if n.Op == 6 {
			return false, 0
		}
		if n.Op != 5 || n.Lo == 0 && n.Hi == -1 {
			continue
		}
		if l[n.L[0]].Op != 2 || n.Lo < 1 || n.Hi < 2 {
			return false, 0
		}
		many++
	}
	return true, many
}

// holdRight holds Right and Counted against the chapter's words.
func holdRight(t *testing.T, l []api.Node) bool {
	t.Helper()
	right, many := rightCounted(l)
	if plan.Right(l) != right || plan.Counted(l) != many {
		t.Fatalf("%q, %v: %t, %d counted; it must be %t, %d", shown(l), l, plan.Right(l), plan.Counted(l), right, many)
	}
	return right
}

// planned is what Tree tells of a tree without Refs, and of a bound that may be, held against the chapter's words, and against what follows from them.
func planned(t *testing.T, l []api.Node, most int) ([]api.Node, api.Errno) {
	t.Helper()
	got, e := plan.Tree(l, most)
	want, wrong := planOf(l, most)
	if e != wrong || !same(got, want) {
		t.Fatalf("%.200q with %d: %.200q, %d; it must be %.200q, %d", shown(l), most, shown(got), e, shown(want), wrong)
	}
	if e != api.OK {
		return got, e
	}
	if !holdRight(t, got) {
		t.Fatalf("%.200q with %d: %.200q is not right", shown(l), most, shown(got))
	}
	for _, n := range got {
		if n.Op == api.Rep && n.Hi >= 0 && n.Hi <= most {
			t.Fatalf("%.200q with %d: %.200q counts up to %d", shown(l), most, shown(got), n.Hi)
		}
	}
	if again, e := plan.Tree(got, most); e != api.OK || !same(again, got) {
		t.Fatalf("%.200q with %d: planned again %.200q, %d", shown(got), most, shown(again), e)
	}
	return got, e
}

// means holds what two trees mean in a text against each other, from each place, and tells how many ends there are.
func means(t *testing.T, l, p []api.Node, w string) int {
	t.Helper()
	ends := 0
	for from := range len(w) + 1 {
		got, want := lang.Ends(p, w, from), lang.Ends(l, w, from)
		if !slices.Equal(got, want) {
			t.Fatalf("%.200q in %.60q from %d: %v; its plan %.200q: %v", shown(l), w, from, want, shown(p), got)
		}
		ends += len(got)
	}
	return ends
}
