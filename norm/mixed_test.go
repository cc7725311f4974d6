package norm_test

import (
	"slices"
	"strconv"
	"strings"
	"testing"

	"raddle/api"
	"raddle/norm"
	"raddle/syntax"
)

// drawer draws numbers by a rule, so that each run draws the same ones.
type drawer uint64

func (d *drawer) below(n int) int {
	*d = *d*6364136223846793005 + 1442695040888963407
	return int(uint64(*d) >> 33 % uint64(n))
}

// tree draws a tree of some size, with some names: nodes whose kids are the last ones without a parent, and at the end one for all that are left.
func (d *drawer) tree(size int, names []string) []api.Node {
	var l []api.Node
	var orphans []int
	for len(l) < size-1 {
		n := d.leaf(names)
		many := 0
		switch kind := d.below(10); {
		case len(orphans) > 1 && kind < 3:
			many = 2 + d.below(len(orphans)-1)
			n = api.Node{Op: []uint8{api.Cat, api.Alt}[d.below(2)]}
		case len(orphans) > 0 && kind < 5:
			many = 1
			n = api.Node{Op: api.Rep, Lo: d.below(3), Hi: []int{-1, 2, 4096}[d.below(3)]}
		}
		rest := len(orphans) - many
		n.L = slices.Clone(orphans[rest:])
		orphans = append(orphans[:rest], len(l))
		l = append(l, n)
	}
	switch {
	case len(l) == 0:
		return []api.Node{d.leaf(names)}
	case len(orphans) == 1:
		return l
	}
	return append(l, api.Node{Op: []uint8{api.Cat, api.Alt}[d.below(2)], L: orphans})
}

func (d *drawer) leaf(names []string) api.Node {
	switch d.below(4) {
	case 0:
		return empty()
	case 1:
		return one(byte(d.below(256)))
	case 2:
		gap := 2 + d.below(60)
		return bytes(func(b int) bool { return b%gap == 1 })
	}
	if len(names) == 0 {
		return one('n')
	}
	return ref(names[d.below(len(names))])
}

// row is a tree of many leaves and one node of them all.
func row(op uint8, leaf api.Node, many int) []api.Node {
	var l []api.Node
	var kids []int
	for i := range many {
		l = append(l, leaf)
		kids = append(kids, i)
	}
	return append(l, api.Node{Op: op, L: kids})
}

// stars is a tree of a leaf and many repetitions of it.
func stars(leaf api.Node, many int) []api.Node {
	l := []api.Node{leaf}
	for range many {
		l = append(l, rep(len(l)-1, 0, -1))
	}
	return l
}

// P6.1, P6.2, P6.3: all trees of a few nodes.
func TestAllShort(t *testing.T) {
	defs := []api.Def{def("e", empty()), def("x", one('a'), ref("e"), cat(0, 1)), def("y", ref("z")), def("z", ref("x"), ref("y"), alt(0, 1))}
	leaves := []api.Node{empty(), one('a'), ref("x"), ref("z"), ref("none")}
	trees := 0
	came := map[api.Errno]int{}
	var grow func(l []api.Node, orphans []int)
	grow = func(l []api.Node, orphans []int) {
		if len(orphans) == 1 {
			c := copied(l)
			_, e := expanded(t, c, defs)
			came[e]++
			if norm.Nullable(c) != nothing(c, len(c)-1) {
				t.Fatal("nullable:", c)
			}
			trees++
		}
		if len(l) == 5 {
			return
		}
		put := func(n api.Node, many int) {
			rest := len(orphans) - many
			n.L = append([]int(nil), orphans[rest:]...)
			grow(append(l[:len(l):len(l)], n), append(orphans[:rest:rest], len(l)))
		}
		for _, n := range leaves {
			put(n, 0)
		}
		for many := 1; many <= len(orphans); many++ {
			if many == 1 {
				put(rep(0, 0, -1), 1)
				put(rep(0, 2, 2), 1)
				continue
			}
			put(cat(), many)
			put(alt(), many)
		}
	}
	grow(nil, nil)
	if trees < 5000 || came[api.OK] < 500 || came[api.ErrName] < 500 || came[api.ErrCycle] < 500 {
		t.Error("trees, and their errors:", trees, came)
	}
}

// P6.1, P6.2, P6.3: trees and Defs of many shapes, drawn by a rule.
func TestMixed(t *testing.T) {
	d := drawer(11)
	names := []string{"a", "b", "c", "_", "N9", strings.Repeat("x", 32)}
	came := map[api.Errno]int{}
	for i := range 20000 {
		// Most Defs ask for those ahead of them alone, so that not all are cycles.
		some := names[:1+d.below(len(names))]
		var defs []api.Def
		for k, name := range some {
			known := some[:k]
			if d.below(12) == 0 {
				known = names
			}
			defs = append(defs, api.Def{Name: name, L: d.tree(1+d.below(6+i%40), known)})
		}
		if d.below(2) == 0 {
			slices.Reverse(defs)
		}
		if d.below(20) == 0 {
			some = names
		}
		l := d.tree(1+d.below(20+i%60), some)
		if !norm.Right(defs) || !syntax.Right(l) {
			t.Fatal("not right:", l, defs)
		}
		_, e := expanded(t, l, defs)
		came[e]++
		folds(t, l)
		if norm.Nullable(l) != nothing(l, len(l)-1) {
			t.Fatal("nullable:", l)
		}
	}
	for _, e := range []api.Errno{api.OK, api.ErrName, api.ErrCycle, api.ErrLong} {
		if came[e] < 100 {
			t.Error("errors:", came)
		}
	}
}

// folds holds what Fold tells of a tree against the chapter's words.
func folds(t *testing.T, l []api.Node) {
	t.Helper()
	want := copied(l)
	for i, n := range want {
		if n.Op == api.Bytes {
			want[i].S = foldedSet(n.S)
		}
	}
	if got := norm.Fold(l); !same(got, want) || !syntax.Right(got) {
		t.Fatalf("%v: %v, not %v", l, got, want)
	}
}

// P6.1: a result of MaxNodes nodes, and of one more.
func TestLong(t *testing.T) {
	defs := []api.Def{
		def("one", one('a')), def("two", stars(one('a'), 1)...), def("three", row(api.Cat, one('a'), 2)...),
		def("half", row(api.Alt, ref("one"), 511)...), def("most", row(api.Alt, one('a'), 1023)...), def("mostbutone", row(api.Cat, one('a'), 1022)...), def("alias", ref("most")),
		def("over", row(api.Alt, ref("two"), 1023)...), def("self", append(row(api.Cat, one('a'), 1000), ref("self"), cat(1000, 1001))...),
	}
	for i, x := range []struct {
		l    []api.Node
		many int // of the result; 0: too many
	}{
		{row(api.Cat, one('a'), 1023), 1024},
		{stars(one('a'), 1023), 1024},
		{row(api.Cat, ref("one"), 1023), 1024},
		{stars(ref("one"), 1023), 1024},
		{stars(ref("two"), 1022), 1024},
		{stars(ref("two"), 1023), 0},
		{stars(ref("three"), 1021), 1024},
		{stars(ref("three"), 1022), 0},
		{row(api.Alt, ref("two"), 511), 1023},
		{row(api.Alt, ref("two"), 512), 0},
		{row(api.Cat, ref("three"), 341), 1024},
		{row(api.Cat, ref("three"), 342), 0},
		{row(api.Cat, ref("half"), 1)[:1], 512},
		{[]api.Node{ref("half"), ref("half"), cat(0, 1)}, 0},
		{[]api.Node{ref("half"), rep(0, 0, -1)}, 513},
		{[]api.Node{ref("most")}, 1024},
		{[]api.Node{ref("alias")}, 1024},
		{[]api.Node{ref("most"), rep(0, 0, 1)}, 0},
		{[]api.Node{ref("alias"), rep(0, 0, 1)}, 0},
		{[]api.Node{ref("mostbutone"), rep(0, 0, 1)}, 1024},
		{[]api.Node{ref("mostbutone"), one('a'), cat(0, 1)}, 0},
		{[]api.Node{ref("over")}, 0},
	} {
		l, e := expanded(t, x.l, defs)
		want := api.OK
		if x.many == 0 {
			want = api.ErrLong
		}
		if len(l) != x.many || e != want {
			t.Errorf("%d: %d nodes, %d", i, len(l), e)
		}
	}
}

// P6.1: where a result is too long and a name is none, or stands for itself, the first in the order of the walk tells.
func TestLongAndOthers(t *testing.T) {
	defs := []api.Def{def("most", row(api.Alt, one('a'), 1023)...), def("self", ref("self")), def("alias", ref("one")), def("one", one('a'))}
	for _, x := range []struct {
		a, b string
		want api.Errno
	}{
		{"most", "none", api.ErrName}, {"most", "self", api.ErrCycle}, {"most", "one", api.ErrLong}, {"most", "alias", api.ErrLong}, {"most", "most", api.ErrLong},
		{"none", "most", api.ErrName}, {"self", "most", api.ErrCycle},
	} {
		if l, e := expanded(t, []api.Node{ref(x.a), ref(x.b), cat(0, 1)}, defs); len(l) > 0 || e != x.want {
			t.Errorf("%s and %s: %d", x.a, x.b, e)
		}
	}
	for _, name := range []string{"none", "self"} {
		l := []api.Node{ref("most"), one('a'), ref(name), cat(0, 1, 2)}
		if got, e := expanded(t, l, defs); len(got) > 0 || e != api.ErrLong {
			t.Errorf("behind what is too long, %s: %d", name, e)
		}
	}
}

// DOC.md, Rules 1: names within names, however many, end; so does what doubles with each name.
func TestDeep(t *testing.T) {
	const many = 300000
	defs := make([]api.Def, many)
	for i := range defs {
		defs[i] = def("n"+strconv.Itoa(i), ref("n"+strconv.Itoa(i+1)))
	}
	first := []api.Node{ref("n0")}
	if l, e := norm.Expand(first, defs); len(l) > 0 || e != api.ErrName {
		t.Error("a name that nothing has:", len(l), e)
	}
	defs[many-1].L = []api.Node{ref("n7")}
	if l, e := norm.Expand(first, defs); len(l) > 0 || e != api.ErrCycle {
		t.Error("a cycle:", len(l), e)
	}
	defs[many-1].L = []api.Node{one('z')}
	if l, e := norm.Expand([]api.Node{ref("n0"), ref("n1"), cat(0, 1)}, defs); e != api.OK || text(t, l) != "zz" {
		t.Error("a row of names:", len(l), e)
	}
	for i := range 64 {
		next := ref("n" + strconv.Itoa(i+1))
		defs[i].L = []api.Node{next, next, alt(0, 1)}
	}
	if l, e := norm.Expand(first, defs[:65]); len(l) > 0 || e != api.ErrName {
		t.Error("twice as many with each:", len(l), e)
	}
	defs[64].L = []api.Node{empty()}
	if l, e := norm.Expand(first, defs[:65]); len(l) > 0 || e != api.ErrLong {
		t.Error("twice as many with each:", len(l), e)
	}
	for i := range 2000 {
		defs[i].L = stars(ref("n"+strconv.Itoa(i+1)), 1023)
	}
	if l, e := norm.Expand(first, defs); len(l) > 0 || e != api.ErrLong {
		t.Error("repetitions within names:", len(l), e)
	}
}

// DOC.md, Rules 4: what is handed in is not changed, and nothing behind a list's length is read.
func TestArgumentsStay(t *testing.T) {
	defs := named(t, "x", "(a|b){2}", "y", "{x}c|")
	l := parsed(t, "{y}*(a|)b{2,2}{x}|[^c-e]{y}")
	room := func(l []api.Node) []api.Node {
		c := append(copied(l), one('r'), ref("none"))[:len(l)]
		for i := range c {
			c[i].L = append(c[i].L, 7, 8, 9)[:len(c[i].L)]
		}
		return c
	}
	stays := func(c, l []api.Node) bool {
		for i, n := range c {
			if behind := n.L[:len(n.L)+3][len(n.L):]; !slices.Equal(behind, []int{7, 8, 9}) || !sameNode(n, l[i]) {
				return false
			}
		}
		return len(c) == len(l) && same(c[:len(c)+2][len(c):], []api.Node{one('r'), ref("none")})
	}
	for n := range len(defs) + 1 {
		ds := copiedDefs(defs)
		for i := range ds {
			ds[i].L = room(ds[i].L)
		}
		for m := range len(l) + 1 {
			c := room(l[:m])
			got, e := norm.Expand(c, ds[:n])
			alone, wrong := norm.Expand(copied(l[:m]), copiedDefs(defs[:n]))
			if e != wrong || !same(got, alone) || norm.Right(ds[:n]) != norm.Right(defs[:n]) || norm.Nullable(c) != norm.Nullable(l[:m]) || !same(norm.Fold(c), norm.Fold(copied(l[:m]))) {
				t.Error("what is behind the length tells", n, m)
			}
			if !stays(c, l[:m]) {
				t.Error("changed", n, m)
			}
		}
		for i := range ds {
			if ds[i].Name != defs[i].Name || !stays(ds[i].L, defs[i].L) {
				t.Error("a Def is changed", n, i)
			}
		}
	}
}

// DOC.md, Rules 5: what is answered shares nothing with what is handed in, nor with other answers.
func TestAnswersAreNew(t *testing.T) {
	defs := named(t, "x", "(a|b){2}", "y", "{x}c|")
	kept := copiedDefs(defs)
	for _, s := range []string{"{y}*(a|)b{2,2}{x}|[^c-e]{y}", "(a|b)*c", "{x}{x}", "{y}"} {
		l := parsed(t, s)
		before := copied(l)
		for name, call := range map[string]func() []api.Node{
			"Expand": func() []api.Node { e, _ := norm.Expand(l, defs); return e },
			"Fold":   func() []api.Node { return norm.Fold(l) },
		} {
			first := call()
			second := call()
			want := copied(second)
			for i := range first {
				// Each list is spoilt alone, and up to its capacity: no other one may be changed by that.
				rest := copied(first)
				list := first[i].L[:cap(first[i].L)]
				for k := range list {
					list[k] = -5
				}
				for k := range first {
					if k > i && !sameNode(first[k], rest[k]) {
						t.Errorf("%q, %s: the lists at %d and %d share", s, name, i, k)
					}
				}
			}
			for i := range first[:cap(first)] {
				first[:cap(first)][i] = api.Node{Op: 99}
			}
			if !same(second, want) || !same(l, before) || !same(call(), want) {
				t.Errorf("%q, %s: an answer is shared", s, name)
			}
		}
	}
	for i, d := range defs {
		if d.Name != kept[i].Name || !same(d.L, kept[i].L) {
			t.Error("a Def is shared:", d.Name)
		}
	}
}
