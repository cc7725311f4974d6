package print_test

import (
	"math"
	"slices"
	"strings"
	"testing"

	"raddle/api"
	"raddle/print"
	"raddle/syntax"
)

// The signatures that the chapter lists.
var (
	_ func([]api.Node) (string, bool) = print.Tree
	_ func(byte) string               = print.Byte
	_ func(api.Set) string            = print.Set
)

// P5.1
func TestByte(t *testing.T) {
	for c, want := range map[byte]string{
		'|': `\|`, '*': `\*`, '+': `\+`, '?': `\?`, '{': `\{`, '}': `\}`, '(': `\(`, ')': `\)`, '[': `\[`, ']': `\]`,
		'.': `\.`, '\\': `\\`, '/': `\/`, '$': `\$`, '^': `\^`, '"': `\"`, '-': `\-`,
		10: `\n`, 9: `\t`, 13: `\r`,
		0: `\x00`, 1: `\x01`, 8: `\x08`, 11: `\x0b`, 12: `\x0c`, 14: `\x0e`, 15: `\x0f`, 16: `\x10`, 27: `\x1b`, 31: `\x1f`,
		127: `\x7f`, 128: `\x80`, 0x9a: `\x9a`, 0xa9: `\xa9`, 0xc3: `\xc3`, 0xfa: `\xfa`, 255: `\xff`,
		32: " ", 33: "!", 126: "~", 'a': "a", 'z': "z", 'A': "A", 'Z': "Z", '0': "0", '9': "9", 'n': "n", 't': "t", 'r': "r", 'x': "x",
		',': ",", '#': "#", '%': "%", '&': "&", '\'': "'", ':': ":", ';': ";", '<': "<", '=': "=", '>': ">", '@': "@", '_': "_", '`': "`",
	} {
		if s := print.Byte(c); s != want {
			t.Errorf("%d: %q, not %q", c, s, want)
		}
	}
}

// P5.1, P5.3: each byte by the chapter's words; as an atom and in a class it is that byte.
func TestEachByte(t *testing.T) {
	for b := range 256 {
		s := print.Byte(byte(b))
		if s != byteText(b) {
			t.Errorf("%d: %q, not %q", b, s, byteText(b))
		}
		for _, pattern := range []string{s, "[" + s + "]", "[" + s + "-" + s + "]", "[" + s + s + "]"} {
			if l := parsed(t, pattern); !same(l, []api.Node{one(byte(b))}) {
				t.Errorf("%q: %v", pattern, l)
			}
		}
	}
}

// P5.1
func TestSet(t *testing.T) {
	of := func(s string) api.Set { return set(func(b int) bool { return strings.IndexByte(s, byte(b)) >= 0 }) }
	but := func(c int) api.Set { return set(func(b int) bool { return b != c }) }
	for _, x := range []struct {
		s    api.Set
		want string
	}{
		{api.Set{}, "[]"},
		{but(256), `[\x00-\xff]`},
		{but(10), "."},
		{but(9), `[\x00-\x08\n-\xff]`},
		{but(11), `[\x00-\n\x0c-\xff]`},
		{but(13), `[\x00-\x0c\x0e-\xff]`},
		{but(0), `[\x01-\xff]`},
		{but(255), `[\x00-\xfe]`},
		{but('a'), "[\\x00-`b-\\xff]"},
		{set(func(b int) bool { return b != 10 && b != 255 }), `[\x00-\t\x0b-\xfe]`},
		{of("\n"), `\n`},
		{of("."), `\.`},
		{of("a"), "a"},
		{of("\x00"), `\x00`},
		{of("\xff"), `\xff`},
		{of("-"), `\-`},
		{of("ab"), "[a-b]"},
		{of("abc"), "[a-c]"},
		{of("ac"), "[ac]"},
		{of("zcab"), "[a-cz]"},
		{of("az019 _"), "[ 0-19_az]"},
		{of("\x00\xff"), `[\x00\xff]`},
		{of("\t\n\r"), `[\t-\n\r]`},
		{of("+,-./"), `[\+-\/]`},
		{of("]^"), `[\]-\^]`},
		{of("[]"), `[\[\]]`},
		{of(`-^\`), `[\-\\\^]`},
		{of("?@"), `[\?-@]`},
		{of(",-"), `[,-\-]`},
	} {
		if s := print.Set(x.s); s != x.want {
			t.Errorf("%x: %q, not %q", x.s, s, x.want)
		}
	}
}

// P5.1, P5.3: each span of bytes, alone and taken out of all.
func TestEachSpan(t *testing.T) {
	for lo := range 256 {
		for hi := lo; hi < 256; hi++ {
			inside := set(func(b int) bool { return lo <= b && b <= hi })
			outside := set(func(b int) bool { return b < lo || hi < b })
			checkSet(t, inside)
			checkSet(t, outside)
		}
	}
}

// P5.1, P5.3: each two bytes, and sets of mixed bits.
func TestMixedSets(t *testing.T) {
	for lo := range 256 {
		for hi := range lo {
			checkSet(t, set(func(b int) bool { return b == lo || b == hi }))
		}
	}
	d := drawer(1)
	for range 5000 {
		checkSet(t, d.set())
	}
	checkSet(t, set(func(b int) bool { return b%2 == 0 }))
	checkSet(t, set(func(b int) bool { return b%2 == 1 }))
	checkSet(t, set(func(b int) bool { return b%3 > 0 }))
}

// checkSet holds what Set tells of a set against the chapter's words, and Parse of that against the set, if it has a byte.
func checkSet(t *testing.T, s api.Set) {
	t.Helper()
	text := print.Set(s)
	if want := setText(s); text != want {
		t.Fatalf("%x: %q, not %q", s, text, want)
	}
	if s == (api.Set{}) || len(text) > 1024 {
		return
	}
	if l := parsed(t, text); !same(l, []api.Node{{Op: api.Bytes, S: s}}) {
		t.Fatalf("%q: %v", text, l)
	}
}

// P5.2, and the chapter's example.
func TestTree(t *testing.T) {
	for s, want := range map[string]string{
		"(a|)b{2,2}":                         "(a|)b{2}",
		"":                                   "",
		"()":                                 "",
		"a":                                  "a",
		"((a))":                              "a",
		"(ab)":                               "ab",
		"ab|c*":                              "ab|c*",
		"(ab)|c":                             "ab|c",
		"(ab)c":                              "(ab)c",
		"a(bc)":                              "a(bc)",
		"a(b)c":                              "abc",
		"(a|b)c":                             "(a|b)c",
		"(a|b)|c":                            "(a|b)|c",
		"a|(b|c)":                            "a|(b|c)",
		"a|(b)|c":                            "a|b|c",
		"|":                                  "|",
		"()|()|()":                           "||",
		"a|":                                 "a|",
		"|a":                                 "|a",
		"()()":                               "()()",
		"()a":                                "()a",
		"a()":                                "a()",
		"()*":                                "()*",
		"(|)*":                               "(|)*",
		"(ab)*":                              "(ab)*",
		"(a)*":                               "a*",
		"(a*)*":                              "a**",
		"(a*)b":                              "a*b",
		"(a*)|b":                             "a*|b",
		"({n})*":                             "{n}*",
		"({n}){m}":                           "{n}{m}",
		"({n}){2}":                           "{n}{2}",
		"{n}|({m})":                          "{n}|{m}",
		"({_Zz09})":                          "{_Zz09}",
		"a*+?{2}{3,}{4,5}":                   "a*+?{2}{3,}{4,5}",
		"(((a|b)c|d)*e)+|f":                  "(((a|b)c|d)*e)+|f",
		"[a-a]":                              "a",
		"[^a]":                               "[\\x00-`b-\\xff]",
		"[^\\n]":                             ".",
		"[^\\x00-\\x09\\x0b-\\xff]":          `\n`,
		"\n\t\r\x00\x7f\xff -,":              `\n\t\r\x00\x7f\xff \-,`,
		`\|\*\+\?\{\}\(\)\[\]\.\\\/\$\^\"\-`: `\|\*\+\?\{\}\(\)\[\]\.\\\/\$\^\"\-`,
		`\x61\x2e\x0a\x09\x0d`:               `a\.\n\t\r`,
		"é":                                  `\xc3\xa9`,
	} {
		if text := printed(t, parsed(t, s)); text != want {
			t.Errorf("%q: %q, not %q", s, text, want)
		}
	}
}

// P5.2: each kind of node as a kid of each kind that has kids, at each place.
func TestKids(t *testing.T) {
	kids := map[uint8][]api.Node{
		api.Empty: {empty()}, api.Bytes: {one('a')}, api.Ref: {ref("n")},
		api.Cat: {one('a'), one('b'), cat(0, 1)}, api.Alt: {one('a'), one('b'), alt(0, 1)}, api.Rep: {one('a'), rep(0, 3, 3)},
	}
	for kid, want := range map[uint8][3]string{ // in a Cat, an Alt, a Rep
		api.Empty: {"()", "", "()"},
		api.Bytes: {"a", "a", "a"},
		api.Ref:   {"{n}", "{n}", "{n}"},
		api.Cat:   {"(ab)", "ab", "(ab)"},
		api.Alt:   {"(a|b)", "(a|b)", "(a|b)"},
		api.Rep:   {"a{3}", "a{3}", "a{3}"},
	} {
		l := kids[kid]
		n := len(l)
		for text, more := range map[string][]api.Node{
			want[0] + "x":          {one('x'), cat(n-1, n)},
			want[0] + "xy":         {one('x'), one('y'), cat(n-1, n, n+1)},
			want[1] + "|x":         {one('x'), alt(n-1, n)},
			want[1] + "|x|y":       {one('x'), one('y'), alt(n-1, n, n+1)},
			want[2] + "*":          {rep(n-1, 0, -1)},
			want[2] + "{2,3}":      {rep(n-1, 2, 3)},
			want[2] + "{2,3}?":     {rep(n-1, 2, 3), rep(n, 0, 1)},
			want[0] + "x|y":        {one('x'), cat(n-1, n), one('y'), alt(n+1, n+2)},
			"(" + want[1] + "|x)y": {one('x'), alt(n-1, n), one('y'), cat(n+1, n+2)},
		} {
			if s := printed(t, slices.Concat(l, more)); s != text {
				t.Errorf("%q, not %q", s, text)
			}
		}
		for _, x := range []struct {
			op   uint8
			text string
		}{{api.Cat, "x" + want[0]}, {api.Alt, "x|" + want[1]}} {
			if s := printed(t, behind(one('x'), l, x.op)); s != x.text {
				t.Errorf("%q, not %q", s, x.text)
			}
		}
	}
}

// behind is a node of a kid and, as its last one, a tree.
func behind(first api.Node, l []api.Node, op uint8) []api.Node {
	all := []api.Node{first}
	for _, n := range copied(l) {
		for i := range n.L {
			n.L[i]++
		}
		all = append(all, n)
	}
	return append(all, api.Node{Op: op, L: []int{0, len(all) - 1}})
}

// P5.2, P5.3
func TestBounds(t *testing.T) {
	for bounds, want := range map[[2]int]string{
		{0, -1}: "*", {1, -1}: "+", {0, 1}: "?",
		{1, 1}: "{1}", {2, 2}: "{2}", {10, 10}: "{10}", {4096, 4096}: "{4096}",
		{2, -1}: "{2,}", {3, -1}: "{3,}", {4096, -1}: "{4096,}",
		{0, 2}: "{0,2}", {1, 2}: "{1,2}", {0, 4096}: "{0,4096}", {1, 4096}: "{1,4096}", {4095, 4096}: "{4095,4096}", {9, 10}: "{9,10}",
	} {
		for _, kid := range []struct {
			n    api.Node
			text string
		}{{one('a'), "a"}, {empty(), "()"}, {ref("n"), "{n}"}, {one('9'), "9"}} {
			l := []api.Node{kid.n, rep(0, bounds[0], bounds[1])}
			if s := printed(t, l); s != kid.text+want {
				t.Errorf("%q, not %q", s, kid.text+want)
			}
			back(t, l)
		}
	}
	for lo := range 70 {
		for hi := -1; hi < 70; hi++ {
			if l := []api.Node{one('a'), rep(0, lo, hi)}; syntax.Right(l) {
				back(t, l)
			}
		}
	}
}

// P5.2: what is no tree.
func TestNoTree(t *testing.T) {
	a, b := one('a'), one('b')
	for i, l := range [][]api.Node{
		nil, {}, {{}}, {{Op: 7}}, {{Op: 255}}, {{Op: 0, S: a.S}}, {{Op: api.Bytes}},
		{a, b}, {a, empty()}, {a, b, a, cat(0, 1)}, {a, b, cat(0, 1), a}, {a, b, rep(0, 0, 1)},
		{a, b, cat(1, 0)}, {a, b, cat(0, 0)}, {a, cat(0, 0)}, {a, b, cat(0, 1, 1)}, {a, b, cat(0, 2)}, {a, b, cat(0, 3)}, {a, b, cat(-1, 0)},
		{cat(1, 2), a, b}, {a, cat(0)}, {a, alt(0)}, {cat()}, {alt()}, {rep(0, 0, 1)}, {a, rep(1, 0, 1)}, {{Op: api.Rep, Hi: 1}}, {a, b, {Op: api.Rep, L: []int{0, 1}, Hi: 1}},
		{a, b, rep(0, 0, -1), cat(1, 2)}, {a, b, cat(math.MinInt, math.MaxInt)},
		{a, rep(0, 0, 0)}, {a, rep(0, 2, 1)}, {a, rep(0, -1, 1)}, {a, rep(0, 0, -2)}, {a, rep(0, 0, 4097)}, {a, rep(0, 4097, -1)},
		{ref("")}, {ref("9")}, {ref("a-b")}, {ref(strings.Repeat("n", 33))},
		{{Op: api.Empty, S: a.S}}, {{Op: api.Empty, Name: "n"}}, {{Op: api.Bytes, S: a.S, Lo: 1}}, {{Op: api.Ref, Name: "n", Hi: 1}}, {{Op: api.Empty, L: []int{0}}},
		{a, b, {Op: api.Cat, L: []int{0, 1}, Name: "n"}},
		stars(one('a'), 1024),
	} {
		if s, ok := print.Tree(l); s != "" || ok {
			t.Errorf("%d: %q, %t", i, s, ok)
		}
	}
}

// P5.2: a tree with one thing changed is printed if, and only if, it is a tree yet.
func TestChanged(t *testing.T) {
	for _, s := range []string{"", "ab|c*", "(a|)b{2,2}", "((a)(b|c))+{x}", "a*b*c*|(d(e(f|)))"} {
		l := parsed(t, s)
		for i := range l {
			for _, change := range []func(n *api.Node){
				func(n *api.Node) { n.Op++ },
				func(n *api.Node) { n.Op-- },
				func(n *api.Node) { n.Lo++ },
				func(n *api.Node) { n.Hi++ },
				func(n *api.Node) { n.Hi-- },
				func(n *api.Node) { n.Name += "x" },
				func(n *api.Node) { n.S[0] ^= 1 },
				func(n *api.Node) { n.S = api.Set{} },
				func(n *api.Node) { n.L = nil },
				func(n *api.Node) { n.L = append(n.L, 0) },
				func(n *api.Node) { slices.Reverse(n.L) },
			} {
				c := copied(l)
				change(&c[i])
				if syntax.Right(c) {
					back(t, c)
				} else if text, ok := print.Tree(c); text != "" || ok {
					t.Errorf("%q, changed at %d: %q, %t", s, i, text, ok)
				}
			}
		}
	}
}

// DOC.md, Rules 3: a list that is empty is as one that is nil.
func TestEmptyLists(t *testing.T) {
	for want, n := range map[string]api.Node{"": empty(), "a": one('a'), "{n}": ref("n")} {
		n.L = []int{}
		if s := printed(t, []api.Node{n}); s != want {
			t.Errorf("%q, not %q", s, want)
		}
	}
}

// DOC.md, Rules 4: what is handed in is not changed, and nothing behind a list's length is read.
func TestArgumentsStay(t *testing.T) {
	l := parsed(t, "(a|)b{2,2}{x}|[^c-e]")
	for n := range len(l) + 1 {
		c := copied(l)
		for i := range c {
			c[i].L = append(c[i].L, 7, 8, 9)[:len(c[i].L)]
		}
		s, ok := print.Tree(c[:n])
		alone, aloneOK := print.Tree(copied(l[:n]))
		if s != alone || ok != aloneOK {
			t.Error("what is behind the length tells", n)
		}
		for i, x := range c {
			if behind := x.L[:len(x.L)+3][len(x.L):]; !sameNode(x, l[i]) || !slices.Equal(behind, []int{7, 8, 9}) {
				t.Error("changed", n, i)
			}
		}
	}
}
