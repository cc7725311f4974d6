package print_test

import (
	"fmt"
	"slices"
	"strings"
	"testing"

	"raddle/api"
	"raddle/print"
	"raddle/syntax"
)

func empty() api.Node { return api.Node{Op: api.Empty} }

// bytes is a node of the bytes for which in holds.
func bytes(in func(b int) bool) api.Node { return api.Node{Op: api.Bytes, S: set(in)} }

func one(c byte) api.Node { return bytes(func(b int) bool { return b == int(c) }) }

func cat(kids ...int) api.Node { return api.Node{Op: api.Cat, L: kids} }

func alt(kids ...int) api.Node { return api.Node{Op: api.Alt, L: kids} }

func rep(kid, lo, hi int) api.Node {
	return api.Node{Op: api.Rep, L: []int{kid}, Lo: lo, Hi: hi}
}

func ref(name string) api.Node { return api.Node{Op: api.Ref, Name: name} }

// set is the set of the bytes for which in holds.
func set(in func(b int) bool) api.Set {
	var s api.Set
	for b := range 256 {
		if in(b) {
			s[b/64] |= 1 << (b % 64)
		}
	}
	return s
}

func has(s api.Set, b int) bool { return s[b/64]>>(b%64)&1 == 1 }

// byteText says by the chapter's own words how a byte is printed.
func byteText(b int) string {
	for _, c := range "|*+?{}()[].\\/$^\"-" {
		if b == int(c) {
			return fmt.Sprintf(`\%c`, c)
		}
	}
	if text := map[int]string{10: `\n`, 9: `\t`, 13: `\r`}[b]; text != "" {
		return text
	}
	if b < 32 || b > 126 {
		return fmt.Sprintf(`\x%02x`, b)
	}
	return fmt.Sprintf("%c", rune(b))
}

// setText says by the chapter's own words how a set is printed.
func setText(s api.Set) string {
	var members []int
	for b := range 256 {
		if has(s, b) {
			members = append(members, b)
		}
	}
	if len(members) == 1 {
		return byteText(members[0])
	}
	if len(members) == 255 && !has(s, 10) {
		return "."
	}
	var text strings.Builder
	for _, b := range members {
		begins, ends := b == 0 || !has(s, b-1), b == 255 || !has(s, b+1)
		switch {
		case begins:
			text.WriteString(byteText(b))
		case ends:
			text.WriteString("-" + byteText(b))
		}
	}
	return "[" + text.String() + "]"
}

// boundsText says by the chapter's own words what stands behind a kid that is repeated.
func boundsText(lo, hi int) string {
	short := map[[2]int]string{{0, -1}: "*", {1, -1}: "+", {0, 1}: "?"}
	if text := short[[2]int{lo, hi}]; text != "" {
		return text
	}
	text := fmt.Sprintf("{%d,%d}", lo, hi)
	text = strings.Replace(text, ",-1}", ",}", 1)
	return strings.Replace(text, fmt.Sprintf("{%d,%d}", lo, lo), fmt.Sprintf("{%d}", lo), 1)
}

// treeText says by the chapter's own words how a tree is printed: of each node its text, from the first one to the root.
func treeText(l []api.Node) string {
	texts := make([]string, len(l))
	for i, n := range l {
		var kids []string
		for _, k := range n.L {
			text := texts[k]
			switch op := l[k].Op; {
			case n.Op == api.Alt && (op == api.Empty || op == api.Cat):
			case op == api.Empty || op == api.Cat || op == api.Alt:
				text = "(" + text + ")"
			}
			kids = append(kids, text)
		}
		switch n.Op {
		case api.Bytes:
			texts[i] = setText(n.S)
		case api.Ref:
			texts[i] = "{" + n.Name + "}"
		case api.Rep:
			texts[i] = kids[0] + boundsText(n.Lo, n.Hi)
		case api.Cat:
			texts[i] = strings.Join(kids, "")
		case api.Alt:
			texts[i] = strings.Join(kids, "|")
		}
	}
	return texts[len(l)-1]
}

// tooDeep is where the first parenthesis of a printed pattern is that stands within 64 others; -1, if none does.
func tooDeep(text string) int {
	open := 0
	for i := 0; i < len(text); i++ {
		switch text[i] {
		case '\\':
			i++
		case '(':
			if open++; open > 64 {
				return i
			}
		case ')':
			open--
		}
	}
	return -1
}

func sameNode(a, b api.Node) bool {
	return a.Op == b.Op && a.S == b.S && slices.Equal(a.L, b.L) && a.Lo == b.Lo && a.Hi == b.Hi && a.Name == b.Name
}

func same(a, b []api.Node) bool { return slices.EqualFunc(a, b, sameNode) }

// copied is nodes that share nothing with others.
func copied(l []api.Node) []api.Node {
	c := slices.Clone(l)
	for i := range c {
		c[i].L = slices.Clone(c[i].L)
	}
	return c
}

// parsed is what Parse tells of a pattern that must be one.
func parsed(t *testing.T, s string) []api.Node {
	t.Helper()
	l, at, e := syntax.Parse(s)
	if len(l) == 0 || at != 0 || e != api.OK {
		t.Fatalf("%.60q of %d bytes: %d nodes, at %d: %d", s, len(s), len(l), at, e)
	}
	return l
}

// printed is what Tree tells of a tree, held against the chapter's words.
func printed(t *testing.T, l []api.Node) string {
	t.Helper()
	s, ok := print.Tree(l)
	if want := treeText(l); s != want || !ok {
		t.Fatalf("%d nodes: %.60q of %d bytes, %t; it must be %.60q of %d bytes", len(l), s, len(s), ok, want, len(want))
	}
	return s
}

// back holds what Parse tells of a tree's pattern against the tree; of a pattern that is too long, or too deep, against that error. It tells whether the tree came back.
func back(t *testing.T, l []api.Node) bool {
	t.Helper()
	text := printed(t, l)
	again, at, e := syntax.Parse(text)
	deep := tooDeep(text)
	switch {
	case len(text) > 1024:
		if e != api.ErrLong || at != 0 {
			t.Fatalf("%.60q of %d bytes, at %d: %d", text, len(text), at, e)
		}
	case deep >= 0:
		if e != api.ErrDepth || at != deep {
			t.Fatalf("%.60q of %d bytes, at %d: %d", text, len(text), at, e)
		}
	default:
		if e != api.OK || at != 0 || !same(again, l) {
			t.Fatalf("%.60q of %d bytes, at %d: %d: %v, not %v", text, len(text), at, e, again, l)
		}
		return true
	}
	return false
}
