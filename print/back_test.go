package print_test

import (
	"strings"
	"testing"

	"raddle/api"
	"raddle/print"
	"raddle/syntax"
)

// drawer draws numbers by a rule, so that each run draws the same ones.
type drawer uint64

func (d *drawer) below(n int) int {
	*d = *d*6364136223846793005 + 1442695040888963407
	return int(uint64(*d) >> 33 % uint64(n))
}

// set draws a set with a byte at least: of one byte, of a few spans, or of mixed bits.
func (d *drawer) set() api.Set {
	var s api.Set
	for s == (api.Set{}) {
		switch d.below(4) {
		case 0:
			c := d.below(256)
			s = set(func(b int) bool { return b == c })
		case 1:
			s = set(func(b int) bool { return d.below(2) == 0 })
		case 2:
			s = set(func(b int) bool { return b != 10 })
		default:
			from, gap := d.below(256), 1+d.below(40)
			s = set(func(b int) bool { return b >= from && (b-from)%gap < gap/2+1 })
		}
	}
	return s
}

// bounds draws what Lo and Hi may be.
func (d *drawer) bounds() (lo, hi int) {
	switch d.below(6) {
	case 0:
		return 0, -1
	case 1:
		return 1, -1
	case 2:
		return 0, 1
	case 3:
		return d.below(4097), -1
	case 4:
		lo = 1 + d.below(4096)
		return lo, lo
	}
	hi = 1 + d.below(4096)
	return d.below(hi + 1), hi
}

// tree draws a tree of some size: nodes whose kids are the last ones without a parent, and at the end one for all that are left. How often a node has kids says how deep it is.
func (d *drawer) tree(size, often int) []api.Node {
	var l []api.Node
	var orphans []int
	for len(l) < size-1 {
		var n api.Node
		many := 0
		switch kind := d.below(100); {
		case len(orphans) > 1 && kind < often:
			many = 2 + d.below(min(len(orphans)-1, 1+d.below(4)))
			n.Op = []uint8{api.Cat, api.Alt}[d.below(2)]
		case len(orphans) > 0 && kind < often+often/2:
			many = 1
			n.Op = api.Rep
			n.Lo, n.Hi = d.bounds()
		default:
			n = d.leaf()
		}
		rest := len(orphans) - many
		n.L = append(n.L, orphans[rest:]...)
		orphans = append(orphans[:rest], len(l))
		l = append(l, n)
	}
	switch {
	case len(l) == 0:
		return []api.Node{d.leaf()}
	case len(orphans) == 1:
		return l
	}
	return append(l, api.Node{Op: []uint8{api.Cat, api.Alt}[d.below(2)], L: orphans})
}

func (d *drawer) leaf() api.Node {
	switch d.below(5) {
	case 0:
		return empty()
	case 1:
		return ref([]string{"n", "_", "Z9", strings.Repeat("x", 32)}[d.below(4)])
	case 2:
		return bytes(func(b int) bool { return b == 'a' })
	}
	return api.Node{Op: api.Bytes, S: d.set()}
}

// stars is a tree of a leaf and many repetitions of it.
func stars(leaf api.Node, many int) []api.Node {
	l := []api.Node{leaf}
	for range many {
		l = append(l, rep(len(l)-1, 0, -1))
	}
	return l
}

// row is a tree of many nodes and one of them all.
func row(op uint8, leaf api.Node, many int) []api.Node {
	var l []api.Node
	var kids []int
	for i := range many {
		l = append(l, leaf)
		kids = append(kids, i)
	}
	return append(l, api.Node{Op: op, L: kids})
}

// nested is a tree of nodes of two kids, many of them, one within the other: the inner one is the last kid, or the first.
func nested(op uint8, many int, last bool) []api.Node {
	var l []api.Node
	if last {
		for range many + 1 {
			l = append(l, one('a'))
		}
		inner := many
		for i := range many {
			l = append(l, api.Node{Op: op, L: []int{many - 1 - i, inner}})
			inner = len(l) - 1
		}
		return l
	}
	l = append(l, one('a'))
	for range many {
		l = append(l, one('a'))
		l = append(l, api.Node{Op: op, L: []int{len(l) - 2, len(l) - 1}})
	}
	return l
}

// P5.2, P5.3: all trees of a few nodes.
func TestAllShort(t *testing.T) {
	leaves := []api.Node{empty(), one('a'), ref("n")}
	trees := 0
	patterns := map[string]bool{}
	var grow func(l []api.Node, orphans []int)
	grow = func(l []api.Node, orphans []int) {
		if len(orphans) == 1 {
			if !back(t, copied(l)) {
				t.Fatal("neither too long nor too deep:", l)
			}
			trees++
			patterns[treeText(l)] = true
		}
		if len(l) == 6 {
			return
		}
		put := func(n api.Node, many int) {
			rest := len(orphans) - many
			n.L = append([]int(nil), orphans[rest:]...)
			grow(append(l[:len(l):len(l)], n), append(orphans[:rest:rest], len(l)))
		}
		for _, n := range leaves {
			put(n, 0)
		}
		for many := 1; many <= len(orphans); many++ {
			if many == 1 {
				put(rep(0, 0, -1), 1)
				put(rep(0, 2, 2), 1)
				continue
			}
			put(cat(), many)
			put(alt(), many)
		}
	}
	grow(nil, nil)
	if trees < 5000 || len(patterns) != trees {
		t.Error("trees and their patterns:", trees, len(patterns))
	}
}

// P5.2, P5.3: trees of many sizes and shapes, drawn by a rule.
func TestMixed(t *testing.T) {
	d := drawer(7)
	came, not := 0, 0
	for i := range 20000 {
		size, often := 1+d.below(30), 10+d.below(55)
		if i%50 == 0 {
			size = 1 + d.below(1024)
		}
		l := d.tree(size, often)
		if !syntax.Right(l) {
			t.Fatal("no tree:", l)
		}
		if back(t, l) {
			came++
		} else {
			not++
		}
	}
	if came < 5000 || not < 100 {
		t.Error("trees that came back, and others:", came, not)
	}
}

// P5.3: whatever a pattern is, its tree's pattern has the same tree, and is its own pattern.
func TestPatterns(t *testing.T) {
	for _, s := range []string{
		"", "a", "ab|c*", "(a|)b{2,2}", "a{12,345}", "a{2,}?", "{name}+", "{x}{y}", "[^a-cx]", `[\x20-\x7e]`, `[\n\--z]*`, `\n\x0a\.`, "(()|[^b].)", "a{4096}{1,1}", "((a)(b|c))+",
		`\"([^\"\\]|\\.)*\"`, `0|[1-9][0-9]{0,8}`, `\/\*([^*]|\*+[^*\/])*\*+\/`, "((((()))))((|)|)*", "-a-[\\-]", "a{0,}{1,}{0,1}",
	} {
		l := parsed(t, s)
		if !back(t, l) {
			t.Errorf("%q does not come back", s)
		}
		text := printed(t, l)
		if again := printed(t, parsed(t, text)); again != text {
			t.Errorf("%q: %q and then %q", s, text, again)
		}
	}
}

// P5.3: a pattern of MaxNodes bytes comes back; one longer is printed, and is too long.
func TestLong(t *testing.T) {
	for i, x := range []struct {
		l      []api.Node
		length int
	}{
		{stars(one('a'), 1023), 1024},
		{stars(one('\n'), 1022), 1024},
		{stars(one('\n'), 1023), 1025},
		{row(api.Alt, empty(), 1023), 1022},
		{row(api.Alt, one('a'), 512), 1023},
		{row(api.Alt, one('a'), 513), 1025},
		{row(api.Cat, one('a'), 1023), 1023},
		{row(api.Cat, one('.'), 512), 1024},
		{row(api.Cat, one('.'), 513), 1026},
		{row(api.Cat, one(0), 256), 1024},
		{row(api.Cat, one(0), 257), 1028},
		{row(api.Cat, empty(), 512), 1024},
		{row(api.Cat, empty(), 513), 1026},
		{row(api.Cat, ref(strings.Repeat("n", 30)), 32), 1024},
		{row(api.Cat, ref(strings.Repeat("n", 30)), 33), 1056},
		{row(api.Cat, one('.'), 1023), 2046},
	} {
		text := printed(t, x.l)
		if len(text) != x.length || back(t, x.l) != (x.length <= 1024) {
			t.Errorf("%d: %.60q of %d bytes, not %d", i, text, len(text), x.length)
		}
	}
}

// P5.3: MaxDepth parentheses within each other come back; with one more the pattern is printed, and is too deep.
func TestDepth(t *testing.T) {
	for _, op := range []uint8{api.Cat, api.Alt} {
		for _, last := range []bool{false, true} {
			for many, comes := range map[int]bool{1: true, 2: true, 64: true, 65: true, 66: false, 67: false, 200: false, 511: false} {
				if l := nested(op, many, last); back(t, l) != comes {
					t.Errorf("%d of the kind %d within each other: %t", many, op, !comes)
				}
			}
		}
	}
	if s := printed(t, nested(api.Cat, 4, true)); s != "a(a(a(aa)))" {
		t.Error(s)
	}
	if s := printed(t, nested(api.Alt, 4, false)); s != "(((a|a)|a)|a)|a" {
		t.Error(s)
	}
	// Parentheses beside each other are not within each other, and those behind a `\` are none.
	if !back(t, row(api.Cat, empty(), 300)) || !back(t, row(api.Cat, one('('), 300)) || !back(t, row(api.Cat, bytes(func(b int) bool { return b == '(' || b == '+' }), 100)) {
		t.Error("not deep")
	}
}

// P5.2: the longest patterns have all their bytes.
func TestLongest(t *testing.T) {
	pairs := bytes(func(b int) bool { return b%3 != 1 })
	for _, op := range []uint8{api.Cat, api.Alt} {
		text, ok := print.Tree(row(op, pairs, 1023))
		if one := len(setText(pairs.S)); !ok || len(text) < 1023*one || text != treeText(row(op, pairs, 1023)) {
			t.Error(op, ok, len(text))
		}
	}
}
