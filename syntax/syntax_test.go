package syntax_test

import (
	"math"
	"slices"
	"strings"
	"testing"
	"unsafe"

	"raddle/api"
	"raddle/syntax"
)

// The signatures that the chapter lists.
var (
	_ func(string) ([]api.Node, int, api.Errno) = syntax.Parse
	_ func([]api.Node) bool                     = syntax.Right
	_ func(string) bool                         = syntax.Name
)

func empty() api.Node { return api.Node{Op: api.Empty} }

// bytes is a node of the bytes for which in holds.
func bytes(in func(b int) bool) api.Node {
	n := api.Node{Op: api.Bytes}
	for b := range 256 {
		if in(b) {
			n.S[b/64] |= 1 << (b % 64)
		}
	}
	return n
}

func one(c byte) api.Node { return bytes(func(b int) bool { return b == int(c) }) }

// these is a node of the bytes of a text.
func these(s string) api.Node {
	return bytes(func(b int) bool { return strings.IndexByte(s, byte(b)) >= 0 })
}

func cat(kids ...int) api.Node { return api.Node{Op: api.Cat, L: kids} }

func alt(kids ...int) api.Node { return api.Node{Op: api.Alt, L: kids} }

func rep(kid, lo, hi int) api.Node {
	return api.Node{Op: api.Rep, L: []int{kid}, Lo: lo, Hi: hi}
}

func ref(name string) api.Node { return api.Node{Op: api.Ref, Name: name} }

func sameNode(a, b api.Node) bool {
	return a.Op == b.Op && a.S == b.S && slices.Equal(a.L, b.L) && a.Lo == b.Lo && a.Hi == b.Hi && a.Name == b.Name
}

func same(a, b []api.Node) bool { return slices.EqualFunc(a, b, sameNode) }

// copied is nodes that share nothing with others.
func copied(l []api.Node) []api.Node {
	c := slices.Clone(l)
	for i := range c {
		c[i].L = slices.Clone(c[i].L)
	}
	return c
}

// tree is what Parse tells of a pattern that must be one.
func tree(t *testing.T, s string) []api.Node {
	t.Helper()
	l, at, e := syntax.Parse(s)
	if len(l) == 0 || at != 0 || e != api.OK {
		t.Fatalf("%q: %d nodes, at %d: %d", s, len(l), at, e)
	}
	return l
}

// fails holds what Parse tells of what is no pattern against an error and its place.
func fails(t *testing.T, s string, place int, want api.Errno) {
	t.Helper()
	l, at, e := syntax.Parse(s)
	if len(l) != 0 || at != place || e != want {
		t.Errorf("%.60q of %d bytes: %d nodes, at %d: %d; it must be at %d: %d", s, len(s), len(l), at, e, place, want)
	}
}

// agrees holds what Parse tells of any text against the chapter's words, and a tree against Right.
func agrees(t *testing.T, s string) {
	t.Helper()
	l, at, e := syntax.Parse(s)
	wantL, wantAt, wantE := parsed(s)
	if !same(l, wantL) || at != wantAt || e != wantE {
		t.Fatalf("%.60q of %d bytes: %v, at %d: %d; it must be %v, at %d: %d", s, len(s), l, at, e, wantL, wantAt, wantE)
	}
	if e == api.OK && !(syntax.Right(l) && isTree(l)) {
		t.Fatalf("%.60q of %d bytes: no tree: %v", s, len(s), l)
	}
}

// all calls f with each text of at most length bytes of an alphabet.
func all(alphabet string, length int, f func(s string)) {
	var grow func(s []byte)
	grow = func(s []byte) {
		f(string(s))
		if len(s) < length {
			for i := range len(alphabet) {
				grow(append(s, alphabet[i]))
			}
		}
	}
	grow(make([]byte, 0, length))
}

// P4.1
func TestName(t *testing.T) {
	long := strings.Repeat("n", 31)
	for s, want := range map[string]bool{
		"": false, "a": true, "z": true, "A": true, "Z": true, "_": true, "0": false, "9": false,
		"_a9": true, "9a": false, "a-b": false, "a b": false, "a ": false, " a": false, "a.": false,
		"a0": true, "a9": true, "__": true, "aZ_0": true, "name\n": false, "\x00": false, "a\x00": false,
		"é": false, "aé": false, "\xff": false, "a\xff": false, "Ａ": false, "a٣": false,
		long: true, long + "9": true, long + "_a": false, "_" + long: true, "0" + long: false,
		strings.Repeat("n", 33): false, strings.Repeat("n", 1<<16): false,
	} {
		if syntax.Name(s) != want {
			t.Errorf("Name of %.40q: %t", s, !want)
		}
	}
}

// P4.1
func TestNameOfEachByte(t *testing.T) {
	for i := range 256 {
		b := string([]byte{byte(i)})
		letter := i >= 'a' && i <= 'z' || i >= 'A' && i <= 'Z' || i == '_'
		digit := i >= '0' && i <= '9'
		if syntax.Name(b) != letter || syntax.Name("x"+b) != (letter || digit) || syntax.Name("x"+b+"y") != (letter || digit) {
			t.Errorf("the byte %d in a name", i)
		}
	}
}

// P4.3, and the chapter's Examples.
func TestTrees(t *testing.T) {
	a, b, c := one('a'), one('b'), one('c')
	for s, want := range map[string][]api.Node{
		"ab|c*":       {a, b, cat(0, 1), c, rep(3, 0, -1), alt(2, 4)},
		"":            {empty()},
		"a":           {a},
		"ab":          {a, b, cat(0, 1)},
		"abc":         {a, b, c, cat(0, 1, 2)},
		"|":           {empty(), empty(), alt(0, 1)},
		"||":          {empty(), empty(), empty(), alt(0, 1, 2)},
		"a|b|":        {a, b, empty(), alt(0, 1, 2)},
		"|a":          {empty(), a, alt(0, 1)},
		"()":          {empty()},
		"(())":        {empty()},
		"()()":        {empty(), empty(), cat(0, 1)},
		"a()":         {a, empty(), cat(0, 1)},
		"()*":         {empty(), rep(0, 0, -1)},
		"(a)":         {a},
		"((a))":       {a},
		"(ab)":        {a, b, cat(0, 1)},
		"(ab)c":       {a, b, cat(0, 1), c, cat(2, 3)},
		"a(bc)":       {a, b, c, cat(1, 2), cat(0, 3)},
		"a(b|c)":      {a, b, c, alt(1, 2), cat(0, 3)},
		"(a|b)|c":     {a, b, alt(0, 1), c, alt(2, 3)},
		"a|(b|c)":     {a, b, c, alt(1, 2), alt(0, 3)},
		"(|)":         {empty(), empty(), alt(0, 1)},
		"(ab)+":       {a, b, cat(0, 1), rep(2, 1, -1)},
		"ab+":         {a, b, rep(1, 1, -1), cat(0, 2)},
		"a|b?":        {a, b, rep(1, 0, 1), alt(0, 2)},
		"a**":         {a, rep(0, 0, -1), rep(1, 0, -1)},
		"a*+?{2}{3,}": {a, rep(0, 0, -1), rep(1, 1, -1), rep(2, 0, 1), rep(3, 2, 2), rep(4, 3, -1)},
		"(a{2}b){3}":  {a, rep(0, 2, 2), b, cat(1, 2), rep(3, 3, 3)},
		"a{2,5}?":     {a, rep(0, 2, 5), rep(1, 0, 1)},
		"a{2}{b}c":    {a, rep(0, 2, 2), ref("b"), c, cat(1, 2, 3)},
		"{name}+":     {ref("name"), rep(0, 1, -1)},
		"a{b}":        {a, ref("b"), cat(0, 1)},
		"{_}|{Z9}":    {ref("_"), ref("Z9"), alt(0, 1)},
		"{x}{y}":      {ref("x"), ref("y"), cat(0, 1)},
		"-":           {one('-')},
		"a-b":         {a, one('-'), b, cat(0, 1, 2)},
		",":           {one(',')},
		"\n \x00\xff": {one(10), one(' '), one(0), one(255), cat(0, 1, 2, 3)},
		"é":           {one(0xc3), one(0xa9), cat(0, 1)},
		`\.\x41`:      {one('.'), one('A'), cat(0, 1)},
		`\x0a\n`:      {one(10), one(10), cat(0, 1)},
		`\\n`:         {one('\\'), one('n'), cat(0, 1)},
		`\x7e7`:       {one('~'), one('7'), cat(0, 1)},
		".":           {bytes(func(b int) bool { return b != 10 })},
		`\..`:         {one('.'), bytes(func(b int) bool { return b != 10 }), cat(0, 1)},
	} {
		if l := tree(t, s); !same(l, want) {
			t.Errorf("%q: %v, and must be %v", s, l, want)
		}
	}
}

// P4.2
func TestClasses(t *testing.T) {
	for s, want := range map[string]api.Node{
		"[a]":              one('a'),
		"[aa]":             one('a'),
		"[abz]":            these("abz"),
		"[a-c]":            these("abc"),
		"[a-a]":            one('a'),
		"[a-cb-d]":         these("abcd"),
		"[a-cx-z_]":        these("abcxyz_"),
		`[a-c\x5dz]`:       these("abc]z"),
		`[\-\^\]\\]`:       these(`-^]\`),
		`[\--/]`:           these("-./"),
		`[+-\-]`:           these("+,-"),
		`[\x61-c]`:         these("abc"),
		`[\n\t\r]`:         these("\n\t\r"),
		`[\t-\r]`:          these("\t\n\x0b\x0c\r"),
		"[|*+?{}()[./$\"]": these("|*+?{}()[./$\""),
		"[[]":              one('['),
		"[\x00-\xff]":      bytes(func(int) bool { return true }),
		`[\x00-\xff]`:      bytes(func(int) bool { return true }),
		"[\x80-\x82]":      these("\x80\x81\x82"),
		"[\n]":             one('\n'),
		"[^a]":             bytes(func(b int) bool { return b != 'a' }),
		"[^a-y]":           bytes(func(b int) bool { return b < 'a' || b > 'y' }),
		`[^\^]`:            bytes(func(b int) bool { return b != '^' }),
		`[^\x00-\xfe]`:     one(255),
		`[^\x01-\xff]`:     one(0),
		`[^\n]`:            bytes(func(b int) bool { return b != 10 }),
	} {
		if l := tree(t, s); !same(l, []api.Node{want}) {
			t.Errorf("%q: %v, and must be %v", s, l, want)
		}
	}
}

// P4.2: what each byte is as an atom, behind a `\`, and in a class.
func TestEachByte(t *testing.T) {
	named := map[byte]byte{'n': 10, 't': 9, 'r': 13}
	for i := range 256 {
		c := byte(i)
		b := string([]byte{c})
		switch {
		case c == '/' || c == '$':
			fails(t, b, 0, api.ErrTrail)
			fails(t, "a"+b, 1, api.ErrTrail)
			fails(t, "(a|"+b, 3, api.ErrTrail)
		case strings.IndexByte("*+?]}^\")", c) >= 0:
			fails(t, b, 0, api.ErrByte)
		case strings.IndexByte(`|([{\.`, c) < 0:
			if l := tree(t, b); !same(l, []api.Node{one(c)}) {
				t.Errorf("%q: %v", b, l)
			}
		}
		switch {
		case c == 'x':
			fails(t, `a\`+b, 3, api.ErrEnd)
		case strings.IndexByte(special+"-", c) >= 0 || named[c] > 0:
			want := c
			if named[c] > 0 {
				want = named[c]
			}
			for _, s := range []string{`\` + b, `[\` + b + `]`, `[\` + b + `-\` + b + `]`} {
				if l := tree(t, s); !same(l, []api.Node{one(want)}) {
					t.Errorf("%q: %v", s, l)
				}
			}
		default:
			fails(t, `a\`+b+"cd", 1, api.ErrEscape)
			fails(t, `[a\`+b+"c]", 2, api.ErrEscape)
			fails(t, `[a-\`+b+"c]", 3, api.ErrEscape)
		}
		if strings.IndexByte(`]\-^`, c) < 0 {
			if l := tree(t, "["+b+"]"); !same(l, []api.Node{one(c)}) {
				t.Errorf("a class of %q: %v", b, l)
			}
		}
	}
}

// P4.2: all bytes by two digits, and no others.
func TestHex(t *testing.T) {
	const digits = "0123456789abcdef"
	for i := range 256 {
		s := `\x` + digits[i/16:i/16+1] + digits[i%16:i%16+1]
		if l := tree(t, s); !same(l, []api.Node{one(byte(i))}) {
			t.Errorf("%q: %v", s, l)
		}
		if b := string([]byte{byte(i)}); strings.IndexByte(digits, byte(i)) < 0 {
			fails(t, `ab\x`+b+"0", 2, api.ErrEscape)
			fails(t, `ab\x0`+b, 2, api.ErrEscape)
			fails(t, `[\x0`+b+"]", 1, api.ErrEscape)
		}
	}
}

// P4.2, P4.3
func TestBounds(t *testing.T) {
	for s, want := range map[string][2]int{
		"{1}": {1, 1}, "{4096}": {4096, 4096}, "{0,}": {0, -1}, "{1,}": {1, -1}, "{4096,}": {4096, -1},
		"{0,1}": {0, 1}, "{0,4096}": {0, 4096}, "{4096,4096}": {4096, 4096}, "{2,2}": {2, 2}, "{9,10}": {9, 10}, "{10,100}": {10, 100},
	} {
		if l := tree(t, "a"+s); !same(l, []api.Node{one('a'), rep(0, want[0], want[1])}) {
			t.Errorf("%q: %v", s, l)
		}
	}
	for _, s := range []string{
		"{0}", "{0,0}", "{1,0}", "{2,1}", "{10,9}", "{4096,4095}",
		"{4097}", "{4097,}", "{4097,4097}", "{0,4097}", "{4097,1}", "{999999}", "{1,999999}",
		"{00}", "{01}", "{02}", "{00,}", "{01,}", "{01,2}", "{1,02}", "{0,00}", "{000001}", "{1,000002}",
		"{1000000}", "{0000001}", "{1,1000000}", "{1000000,}", "{18446744073709551617}", "{1,18446744073709551617}",
		"{" + strings.Repeat("1", 1000) + "}",
	} {
		fails(t, "a"+s, 1, api.ErrBounds)
		fails(t, "a"+s+"*)", 1, api.ErrBounds)
		fails(t, "(ab"+s, 3, api.ErrBounds)
	}
	fails(t, "a{2}{2,1}", 4, api.ErrBounds)
}

// P4.3: what is wrong in bounds ahead of their `}` is told ahead of what they are.
func TestBoundsInOrder(t *testing.T) {
	for s, place := range map[string]int{
		"a{02": 4, "a{4097,": 7, "a{3,2": 5, "a{0": 3, "a{2": 3, "a{2,": 4, "a{2,5": 5, "a{12345678901": 13,
	} {
		fails(t, s, place, api.ErrEnd)
	}
	for s, place := range map[string]int{
		"a{02x}": 4, "a{3,2x}": 5, "a{2,x}": 4, "a{2;}": 3, "a{2 }": 3, "a{2 ,3}": 3, "a{2, 3}": 4, "a{2,,3}": 4, "a{2,3,}": 5, "a{2,-1}": 4,
		"a{2{": 3, "a{0,0)": 5, "a{1234567a": 9, "a{2\n": 3, "a{2,|": 4, "a{2\xff": 3, "a{2/": 3,
	} {
		fails(t, s, place, api.ErrByte)
	}
}

// P4.3
func TestNames(t *testing.T) {
	long := strings.Repeat("n", api.MaxName)
	if l := tree(t, "{"+long+"}"); !same(l, []api.Node{ref(long)}) {
		t.Error(l)
	}
	fails(t, "{"+long+"n}", 1, api.ErrByte)
	fails(t, "a{"+long+"n}", 2, api.ErrByte)
	for _, s := range []string{"{}", "{x!}", "{!x}", "{ x}", "{x }", "{,3}", "{x,3}", "{-1}", "{x{y}", "{{}", "{\\x}", "{x\n}", "{x|y}", "{(}", "{/}", "{\xff}", "{}}"} {
		fails(t, s, 1, api.ErrByte)
		fails(t, "ab"+s+"[", 3, api.ErrByte)
	}
	for _, s := range []string{"{", "{x", "{x!", "{!", "a{", "a{,", "({", "({x)", "{x|a*", "a{{", "{\\", "{ "} {
		fails(t, s, len(s), api.ErrEnd)
	}
	for s, place := range map[string]int{"{2}": 0, "{0,1}": 0, "{2": 0, "{2x": 0, "{2x}": 0, "a|{2}": 2, "({2})": 1, "|{9": 1} {
		fails(t, s, place, api.ErrByte)
	}
}

// P4.3: each error and its place, and which of two comes first.
func TestFaults(t *testing.T) {
	for _, x := range []struct {
		s  string
		at int
		e  api.Errno
	}{
		{"a{2,1}", 1, api.ErrBounds},
		{"a/b", 1, api.ErrTrail},
		{"/", 0, api.ErrTrail}, {"$", 0, api.ErrTrail}, {"a$", 1, api.ErrTrail}, {"a*/", 2, api.ErrTrail}, {"a|$", 2, api.ErrTrail}, {"()/", 2, api.ErrTrail}, {"(/", 1, api.ErrTrail}, {"//", 0, api.ErrTrail}, {"$/", 0, api.ErrTrail}, {"a/)", 1, api.ErrTrail}, {"[/]/", 3, api.ErrTrail}, {"a{2}$", 4, api.ErrTrail},
		{"*", 0, api.ErrByte}, {"+a", 0, api.ErrByte}, {"?", 0, api.ErrByte}, {"a|*", 2, api.ErrByte}, {"(*", 1, api.ErrByte}, {"()|+", 3, api.ErrByte}, {"]", 0, api.ErrByte}, {"a]", 1, api.ErrByte}, {"}", 0, api.ErrByte}, {"a}", 1, api.ErrByte}, {"^a", 0, api.ErrByte}, {"a^", 1, api.ErrByte}, {"\"", 0, api.ErrByte}, {"a\"b\"", 1, api.ErrByte}, {"a*\"", 2, api.ErrByte}, {"(a^)", 2, api.ErrByte},
		{")", 0, api.ErrByte}, {"a)", 1, api.ErrByte}, {"a|)", 2, api.ErrByte}, {"(a))", 3, api.ErrByte}, {"()|)(", 3, api.ErrByte}, {"a)/", 1, api.ErrByte}, {"a)*", 1, api.ErrByte},
		{"(", 1, api.ErrEnd}, {"(a", 2, api.ErrEnd}, {"((a)", 4, api.ErrEnd}, {"(a|", 3, api.ErrEnd}, {"a(b*", 4, api.ErrEnd}, {"(()", 3, api.ErrEnd}, {"\\", 1, api.ErrEnd}, {"ab\\", 3, api.ErrEnd}, {"\\\\\\", 3, api.ErrEnd},
		{"\\x", 2, api.ErrEnd}, {"\\x4", 3, api.ErrEnd}, {"\\xg", 3, api.ErrEnd}, {"a\\x", 3, api.ErrEnd}, {"\\x)", 3, api.ErrEnd}, {"[\\x", 3, api.ErrEnd}, {"[\\x4", 4, api.ErrEnd}, {"[\\x]", 4, api.ErrEnd}, {"[a-\\x]", 6, api.ErrEnd},
		{"\\q", 0, api.ErrEscape}, {"a\\q", 1, api.ErrEscape}, {"a\\xg1", 1, api.ErrEscape}, {"\\x1g", 0, api.ErrEscape}, {"\\xA0", 0, api.ErrEscape}, {"\\x0A", 0, api.ErrEscape}, {"\\X00", 0, api.ErrEscape}, {"\\N", 0, api.ErrEscape}, {"\\0", 0, api.ErrEscape}, {"\\ ", 0, api.ErrEscape}, {"\\]\\a", 2, api.ErrEscape}, {"[\\x4]", 1, api.ErrEscape}, {"[b-\\q]", 3, api.ErrEscape}, {"[\\q", 1, api.ErrEscape}, {"(\\q", 1, api.ErrEscape},
		{"[", 1, api.ErrEnd}, {"[^", 2, api.ErrEnd}, {"[a", 2, api.ErrEnd}, {"[a-", 3, api.ErrEnd}, {"[a-c", 4, api.ErrEnd}, {"[^a", 3, api.ErrEnd}, {"[\\", 2, api.ErrEnd}, {"[a-\\", 4, api.ErrEnd}, {"[a|b", 4, api.ErrEnd}, {"[\\]", 3, api.ErrEnd}, {"[^\\x00-\\xff", 11, api.ErrEnd},
		{"[]", 1, api.ErrClass}, {"[]]", 1, api.ErrClass}, {"[]a]", 1, api.ErrClass}, {"[^]", 2, api.ErrClass}, {"[^]]", 2, api.ErrClass}, {"a[]", 2, api.ErrClass},
		{"[-]", 1, api.ErrClass}, {"[-a]", 1, api.ErrClass}, {"[^-a]", 2, api.ErrClass}, {"[a-]", 3, api.ErrClass}, {"[a--]", 3, api.ErrClass}, {"[a-^]", 3, api.ErrClass}, {"[a-b-c]", 4, api.ErrClass}, {"[a-b-]", 4, api.ErrClass}, {"[ab-]", 4, api.ErrClass}, {"[^^]", 2, api.ErrClass}, {"[a^]", 2, api.ErrClass}, {"[a-b^]", 4, api.ErrClass}, {"[\\-^]", 3, api.ErrClass},
		{"[c-a]", 3, api.ErrClass}, {"[b-a", 3, api.ErrClass}, {"[b-a\\q]", 3, api.ErrClass}, {"x[ab-\\x61]", 5, api.ErrClass}, {"[\\x62-a]", 6, api.ErrClass}, {"[a-\\n]", 3, api.ErrClass}, {"[^b-a]", 4, api.ErrClass}, {"[\xff-\x00]", 3, api.ErrClass}, {"[\xff-\x7f]", 3, api.ErrClass},
		{"[^\\x00-\\xff]", 11, api.ErrClass}, {"[^\x00-\xff]", 5, api.ErrClass}, {"[^\\x80-\\xff\\x00-\\x7f]", 20, api.ErrClass}, {"[^\\x00-\\xffa", 12, api.ErrEnd}, {"[^\\x00-\\xff\\q]", 11, api.ErrEscape},
		{"(a|b{2,1}", 4, api.ErrBounds}, {"a{2,1}\\", 1, api.ErrBounds}, {"\\q(", 0, api.ErrEscape}, {"(a\\q*", 2, api.ErrEscape}, {"a**/", 3, api.ErrTrail}, {"*/", 0, api.ErrByte}, {"[a]]", 3, api.ErrByte}, {"{x}}", 3, api.ErrByte}, {"a{2}}", 4, api.ErrByte},
	} {
		fails(t, x.s, x.at, x.e)
	}
}

// P4.3: MaxDepth parentheses, and one more.
func TestDepth(t *testing.T) {
	deep := func(n int, s string) string { return strings.Repeat("(", n) + s + strings.Repeat(")", n) }
	if l := tree(t, deep(64, "a")); !same(l, []api.Node{one('a')}) {
		t.Error(l)
	}
	tree(t, strings.Repeat(deep(64, "a"), 3))
	tree(t, strings.Repeat("()", 300))
	tree(t, deep(63, "()()|(a)*"))
	fails(t, deep(65, "a"), 64, api.ErrDepth)
	fails(t, deep(63, "()(())"), 66, api.ErrDepth)
	fails(t, deep(64, "a|b*(c)"), 68, api.ErrDepth)
	fails(t, strings.Repeat("(", 64), 64, api.ErrEnd)
	fails(t, strings.Repeat("(", 65), 64, api.ErrDepth)
	fails(t, strings.Repeat("(", 1024), 64, api.ErrDepth)
	fails(t, strings.Repeat("(", 64)+"*(", 64, api.ErrByte)
	fails(t, strings.Repeat("(", 65)+`\q`, 64, api.ErrDepth)
	fails(t, deep(64, "a")+deep(65, "a"), 129+64, api.ErrDepth)
	tree(t, deep(64, `\([(]`)+`\((b)`)
}

// P4.3: MaxNodes bytes, MaxNodes nodes, and one more of each.
func TestLong(t *testing.T) {
	as := func(n int) string { return strings.Repeat("a", n) }
	for s, n := range map[string]int{
		as(1023): 1024, strings.Repeat("|", 1022): 1024, "a" + strings.Repeat("*", 1023): 1024,
		as(510) + "|" + as(510): 1023, as(510) + "|" + as(511): 1024, "(" + as(1020) + "|)*": 1024,
		"[" + strings.Repeat("ab", 511) + "]": 1,
		strings.Repeat("()", 512):             513,
		as(1018) + "{0,1}":                    1020,
	} {
		if l := tree(t, s); len(l) != n {
			t.Errorf("%.20q of %d bytes: %d nodes", s, len(s), len(l))
		}
	}
	for _, s := range []string{
		as(1024), as(1023) + "|", as(1023) + "*", strings.Repeat("|", 1023), strings.Repeat("|", 1024), as(511) + "|" + as(511),
		as(1025), as(1 << 16), strings.Repeat("(", 1025), strings.Repeat(")", 1025), "/" + as(1024), `\q` + as(1024), "*" + as(1<<12),
	} {
		fails(t, s, 0, api.ErrLong)
	}
	// Whatever else is wrong comes ahead of too many nodes.
	fails(t, as(1023)+"/", 1023, api.ErrTrail)
	fails(t, as(1023)+"(", 1024, api.ErrEnd)
	fails(t, strings.Repeat("|", 1023)+"*", 1023, api.ErrByte)
	fails(t, strings.Repeat("|", 1023)+")", 1023, api.ErrByte)
	fails(t, as(1022)+`\q`, 1022, api.ErrEscape)
	fails(t, strings.Repeat("|", 1020)+"a{0}", 1021, api.ErrBounds)
}

// P4.2, P4.3, P4.4: all short texts of bytes that mean something.
func TestAllShort(t *testing.T) {
	for _, x := range []struct {
		ahead, alphabet string
		length          int
	}{
		{"", "ab|*()", 6},
		{"", "a|()?/[", 5},
		{"", special + "-^a0,n", 3},
		{"a", "{}019,x*", 5},
		{"a{", "0149,}", 6},
		{"", "{}_a0|!", 5},
		{"[", "]^-ab\\n", 6},
		{"[a", "]^-\\x06", 6},
		{"(", "\\xnf0-)", 6},
	} {
		all(x.alphabet, x.length, func(s string) { agrees(t, x.ahead+s) })
	}
}

// P4.2, P4.3, P4.4: each byte at each place of some patterns.
func TestEachByteAtEachPlace(t *testing.T) {
	for _, s := range []string{
		"", "a", "ab|c*", "(a|)b{2,2}", "a{12,345}", "a{2}", "a{2,}?", "{name}+", "{x}{y}", "[a-c]", "[^a-cx]", `[\x20-\x7e]`, `[\n\--z]*`, `\n\x0a\.`, "(()|[^b].)", "a{4096}{1,1}", "((a)(b|c))+",
	} {
		for at := 0; at <= len(s); at++ {
			for b := range 256 {
				in := s[:at] + string([]byte{byte(b)})
				agrees(t, in)
				agrees(t, in+s[at:])
				if at < len(s) {
					agrees(t, in+s[at+1:])
				}
			}
		}
	}
}

// P4.2, P4.3, P4.4: long rows of pieces, drawn by a rule.
func TestMixed(t *testing.T) {
	pieces := []string{
		"a", "b", "c", "-", " ", "\xff", "(", "(", ")", ")", "|", "*", "+", "?", "{2}", "{0,3}", "{7,}", "{0,}", "{n}", "{long_Name9}", ".", "[a-z]", "[^a-z0]", `[\]\\]`, `\n`, `\x7f`, `\(`, "()", "(|)",
		"{0}", "{", "[", "]", "/", `\q`, "}", "[]", "{09}", ")", "(((((((((((((((((((((((",
	}
	const right = 29
	seed := uint64(1)
	draw := func(n int) int {
		seed = seed*6364136223846793005 + 1442695040888963407
		return int(seed >> 33 % uint64(n))
	}
	trees := 0
	for i := range 20000 {
		var b strings.Builder
		open, length := 0, draw(60)
		if i%100 == 0 {
			length = 700
		}
		for range length {
			from := right
			if draw(100) == 0 {
				from = len(pieces)
			}
			p := pieces[draw(from)]
			if open == 0 && p == ")" || open > 50 && p == "(" {
				continue
			}
			open += strings.Count(p, "(") - strings.Count(p, ")")
			if p == `\(` {
				open--
			}
			if strings.ContainsAny(p[:1], "*+?") || len(p) > 1 && p[0] == '{' && p[1] <= '9' {
				b.WriteString("d")
			}
			b.WriteString(p)
		}
		if open > 0 && draw(10) > 0 {
			b.WriteString(strings.Repeat(")", open))
		}
		agrees(t, b.String())
		if _, _, e := syntax.Parse(b.String()); e == api.OK {
			trees++
		}
	}
	if trees < 5000 {
		t.Error("too few of the rows are patterns:", trees)
	}
}

// isTree says by the chapter's own words whether nodes are a tree.
func isTree(l []api.Node) bool {
	if len(l) < 1 || len(l) > 1024 {
		return false
	}
	parents := make([]int, len(l))
	for i, n := range l {
		if !isNode(n) {
			return false
		}
		for _, k := range n.L {
			if k < 0 || k >= i {
				return false
			}
			parents[k]++
		}
	}
	for i, n := range parents {
		if i < len(l)-1 && n != 1 {
			return false
		}
	}
	walked := 0
	var walk func(i int) bool
	walk = func(i int) bool {
		for _, k := range l[i].L {
			if !walk(k) {
				return false
			}
		}
		walked++
		return walked-1 == i
	}
	return walk(len(l)-1) && walked == len(l)
}

// isNode says by the chapter's own words whether a node has what it must: what it may have is made zero, all else must be so.
func isNode(n api.Node) bool {
	rest := n
	ok := false
	switch n.Op {
	case 1:
		ok = true
	case 2:
		rest.S, ok = api.Set{}, n.S != api.Set{}
	case 3, 4:
		rest.L, ok = nil, len(n.L) >= 2
	case 5:
		rest.L, rest.Lo, rest.Hi = nil, 0, 0
		ok = len(n.L) == 1 && n.Lo >= 0 && n.Lo <= 4096 && (n.Hi == -1 || n.Hi >= 1 && n.Hi <= 4096 && n.Hi >= n.Lo)
	case 6:
		rest.Name, ok = "", syntax.Name(n.Name)
	}
	return ok && sameNode(rest, api.Node{Op: n.Op})
}

// P4.1
func TestRight(t *testing.T) {
	a, b := one('a'), one('b')
	for i, l := range [][]api.Node{
		{empty()}, {a}, {ref("n")}, {bytes(func(int) bool { return true })},
		{{Op: api.Empty, L: []int{}}}, {{Op: api.Bytes, S: a.S, L: []int{}}}, {{Op: api.Ref, Name: "n", L: []int{}}},
		{a, b, cat(0, 1)}, {a, b, alt(0, 1)}, {a, a, cat(0, 1)}, {a, b, a, cat(0, 1, 2)},
		{a, b, cat(0, 1), a, cat(2, 3)}, {a, b, a, cat(1, 2), cat(0, 3)}, {a, b, alt(0, 1), a, alt(2, 3)},
		{empty(), empty(), alt(0, 1)}, {a, rep(0, 0, -1), rep(1, 0, -1), b, cat(2, 3)},
		{a, rep(0, 4096, 4096)}, {a, rep(0, 4096, -1)}, {a, rep(0, 0, 1)}, {a, rep(0, 0, 4096)}, {a, rep(0, 0, -1)}, {a, rep(0, 1, 1)},
		{ref(strings.Repeat("n", 32))},
	} {
		if !syntax.Right(l) {
			t.Error(i, "is a tree:", l)
		}
	}
}

// P4.1
func TestNotRight(t *testing.T) {
	a, b := one('a'), one('b')
	for i, l := range [][]api.Node{
		nil, {}, {{}}, {{Op: 7}}, {{Op: 255}}, {{Op: 0, S: a.S}},
		{a, b}, {a, b, a, cat(0, 1)}, {a, b, cat(0, 1), a}, {a, empty()},
		{a, b, cat(1, 0)}, {a, b, cat(0, 0)}, {a, b, cat(1, 1)}, {a, b, cat(0, 1, 1)}, {a, b, cat(0, 0, 1)}, {a, cat(0, 0)}, {a, b, cat(0, 1, 0)},
		{a, b, cat(0, 2)}, {a, b, cat(0, 3)}, {a, b, cat(-1, 0)}, {a, b, cat(1, 2)}, {cat(1, 2), a, b}, {a, cat(0, 2), b},
		{a, b, cat(0)}, {a, cat(0)}, {a, alt(0)}, {cat()}, {alt()}, {cat(0)}, {cat(0, 0)}, {rep(0, 0, 1)}, {rep(1, 0, 1)}, {rep(-1, 0, 1)},
		{a, rep(1, 0, 1)}, {a, b, rep(1, 0, 1)}, {a, b, rep(0, 0, 1)}, {a, b, {Op: api.Rep, L: []int{0, 1}, Lo: 0, Hi: 1}}, {{Op: api.Rep, Lo: 0, Hi: 1}},
		{a, b, a, cat(0, 2), cat(1, 3)}, {a, b, a, cat(0, 1), cat(2, 3)}, {a, b, rep(0, 0, -1), cat(1, 2)}, {a, b, rep(0, 0, -1), cat(2, 1)},
		{a, cat(math.MaxInt, math.MinInt)}, {a, b, cat(0, math.MaxInt)}, {a, b, cat(0, 1<<32+1)}, {a, b, {Op: api.Cat, L: make([]int, 1<<12)}},
		{a, rep(0, 0, 0)}, {a, rep(0, 1, 0)}, {a, rep(0, 2, 1)}, {a, rep(0, -1, 1)}, {a, rep(0, -1, -1)}, {a, rep(0, 0, -2)}, {a, rep(0, 0, 4097)}, {a, rep(0, 4097, 4097)}, {a, rep(0, 4097, -1)}, {a, rep(0, math.MinInt, math.MaxInt)}, {a, rep(0, math.MaxInt, -1)}, {a, rep(0, 0, math.MinInt)},
		{ref("")}, {ref("9")}, {ref("a-b")}, {ref(strings.Repeat("n", 33))},
		{{Op: api.Bytes}},
	} {
		if syntax.Right(l) {
			t.Error(i, "is no tree:", l)
		}
	}
}

// P4.1: of each kind each field that it may not have.
func TestNothingElse(t *testing.T) {
	a := one('a')
	set := api.Set{0, 0, 0, 1 << 63}
	for op := range 256 {
		for fields := range 1 << 6 {
			n := api.Node{Op: uint8(op)}
			if fields&1 > 0 {
				n.S = set
			}
			if fields&2 > 0 {
				n.Lo = 1
			}
			if fields&4 > 0 {
				n.Hi = 2
			}
			if fields&8 > 0 {
				n.Name = "n"
			}
			l := [][]api.Node{{n}, {a, n}, {a, a, n}, {a, a, a, n}}[fields>>4]
			for i := range len(l) - 1 {
				l[len(l)-1].L = append(l[len(l)-1].L, i)
			}
			if want := isTree(l); syntax.Right(l) != want {
				t.Errorf("%v: %t", l, !want)
			}
		}
	}
}

// P4.1: all lists of a few nodes, with any kids.
func TestRightOfAllShort(t *testing.T) {
	kinds := []api.Node{empty()}
	for k := -1; k < 4; k++ {
		kinds = append(kinds, rep(k, 0, 1))
		for m := -1; m < 4; m++ {
			kinds = append(kinds, cat(k, m))
		}
	}
	threes := slices.Clone(kinds)
	for i := range 64 {
		threes = append(threes, alt(i/16, i/4%4, i%4))
	}
	right := 0
	try := func(kinds []api.Node, most int) {
		var grow func(l []api.Node)
		grow = func(l []api.Node) {
			want := isTree(l)
			if syntax.Right(l) != want {
				t.Fatalf("%v: %t", l, !want)
			}
			if want {
				right++
			}
			if len(l) < most {
				for _, n := range kinds {
					grow(append(l, n))
				}
			}
		}
		grow(nil)
	}
	try(kinds, 4)
	try(threes, 3)
	if right < 10 {
		t.Error("too few trees:", right)
	}
}

// P4.1: MaxNodes nodes, and one more.
func TestRightOfMany(t *testing.T) {
	var chain []api.Node
	chain = append(chain, one('a'))
	for len(chain) < 1024 {
		chain = append(chain, rep(len(chain)-1, 0, -1))
	}
	flat := func(n int) []api.Node {
		var l []api.Node
		var kids []int
		for len(l) < n-1 {
			kids = append(kids, len(l))
			l = append(l, empty())
		}
		return append(l, alt(kids...))
	}
	if !syntax.Right(chain) || !syntax.Right(chain[:1023]) || !syntax.Right(flat(1023)) || !syntax.Right(flat(1024)) {
		t.Error("1024 nodes may be")
	}
	if syntax.Right(append(chain, rep(1023, 0, -1))) || syntax.Right(flat(1025)) || syntax.Right(flat(1<<12)) {
		t.Error("1025 nodes may not be")
	}
}

// P4.1, P4.4: of a tree's nodes the first ones are a tree only where all behind them are about them; a tree that is changed is none.
func TestRightOfChanged(t *testing.T) {
	for _, s := range []string{"ab|c*", "(a|)b{2,2}", "((a)(b|c))+{x}", "a*b*c*|(d(e(f|)))"} {
		l := tree(t, s)
		for i := range l {
			for _, change := range []func(n *api.Node){
				func(n *api.Node) { n.Op++ },
				func(n *api.Node) { n.Op-- },
				func(n *api.Node) { n.Lo++ },
				func(n *api.Node) { n.Hi++ },
				func(n *api.Node) { n.Hi-- },
				func(n *api.Node) { n.Name += "x" },
				func(n *api.Node) { n.S[0] ^= 1 },
				func(n *api.Node) { n.S = api.Set{} },
				func(n *api.Node) { n.L = nil },
				func(n *api.Node) { n.L = append(n.L, 0) },
				func(n *api.Node) { slices.Reverse(n.L) },
			} {
				c := copied(l)
				change(&c[i])
				if want := isTree(c); syntax.Right(c) != want {
					t.Errorf("%q, changed at %d: %t", s, i, !want)
				}
			}
			for _, c := range [][]api.Node{l[:i], l[i:], slices.Delete(copied(l), i, i+1), slices.Insert(copied(l), i, empty())} {
				if want := isTree(c); syntax.Right(c) != want {
					t.Errorf("%q, cut at %d: %t", s, i, !want)
				}
			}
		}
	}
}

// DOC.md, Rules 4: what is handed in is not changed, and nothing behind a list's length is read.
func TestArgumentsStay(t *testing.T) {
	l := tree(t, "(a|)b{2,2}{x}")
	for n := range len(l) + 1 {
		c := copied(l)
		for i := range c {
			c[i].L = append(c[i].L, 7, 8, 9)[:len(c[i].L)]
		}
		short := c[:n]
		alone := copied(l[:n])
		if syntax.Right(short) != syntax.Right(alone) || syntax.Right(short) != isTree(alone) {
			t.Error("what is behind the length tells", n)
		}
		for i, x := range c {
			if behind := x.L[:len(x.L)+3][len(x.L):]; !sameNode(x, l[i]) || !slices.Equal(behind, []int{7, 8, 9}) {
				t.Error("changed", n, i)
			}
		}
	}
}

// DOC.md, Rules 5: what is answered is new, and no two lists of an answer share memory.
func TestAnswersAreNew(t *testing.T) {
	const s = "(a|b|)c{2,2}{x}|d(e(f|gh)*)+"
	first, second := tree(t, s), tree(t, s)
	want := copied(first)
	for i, n := range first {
		kids := n.L
		all := kids[:cap(kids)]
		saved := slices.Clone(all)
		for j := range all {
			all[j] = -9
		}
		for j := range first {
			if j != i && !sameNode(first[j], want[j]) {
				t.Error("nodes share their kids", i, j)
			}
		}
		copy(all, saved)
	}
	for i := range first {
		clear(first[i].L[:cap(first[i].L)])
	}
	clear(first[:cap(first)])
	if !same(second, want) || !same(tree(t, s), want) {
		t.Error("answers share memory")
	}
}

// DOC.md, Rules 4: a name that is answered is no piece of the pattern, which would be kept by that.
func TestNamesAreNew(t *testing.T) {
	s := strings.Repeat("{name}", 9)
	begin := uintptr(unsafe.Pointer(unsafe.StringData(s)))
	for _, n := range tree(t, s)[:9] {
		at := uintptr(unsafe.Pointer(unsafe.StringData(n.Name)))
		if n.Name != "name" || begin <= at && at < begin+uintptr(len(s)) {
			t.Error("a name of the pattern's memory:", n.Name)
		}
	}
}
