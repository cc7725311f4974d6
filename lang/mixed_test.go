package lang_test

import (
	"slices"
	"strings"
	"testing"

	"raddle/api"
	"raddle/lang"
	"raddle/norm"
	"raddle/syntax"
)

// drawer draws numbers by a rule, so that each run draws the same ones.
type drawer uint64

func (d *drawer) below(n int) int {
	*d = *d*6364136223846793005 + 1442695040888963407
	return int(uint64(*d) >> 33 % uint64(n))
}

// tree draws a tree of some size: nodes whose kids are the last ones without a parent, and at the end one for all that are left.
func (d *drawer) tree(size int) []api.Node {
	var l []api.Node
	var orphans []int
	for len(l) < size-1 {
		n := d.leaf()
		many := 0
		switch kind := d.below(10); {
		case len(orphans) > 1 && kind < 3:
			many = 2 + d.below(min(len(orphans)-1, 3))
			n = api.Node{Op: []uint8{api.Cat, api.Alt}[d.below(2)]}
		case len(orphans) > 0 && kind < 5:
			many = 1
			n = d.repetition()
		}
		rest := len(orphans) - many
		n.L = slices.Clone(orphans[rest:])
		orphans = append(orphans[:rest], len(l))
		l = append(l, n)
	}
	switch {
	case len(l) == 0:
		return []api.Node{d.leaf()}
	case len(orphans) == 1:
		return l
	}
	return append(l, api.Node{Op: []uint8{api.Cat, api.Alt}[d.below(2)], L: orphans})
}

func (d *drawer) repetition() api.Node {
	lo := d.below(4)
	hi := max(1, lo) + d.below(3)
	if d.below(3) == 0 {
		hi = -1
	}
	return api.Node{Op: api.Rep, Lo: lo, Hi: hi}
}

func (d *drawer) leaf() api.Node {
	switch d.below(5) {
	case 0:
		return empty()
	case 1:
		return bytes(func(b int) bool { return b != 'a' })
	case 2:
		return bytes(func(b int) bool { return b == 'a' || b == 'b' })
	}
	return one(byte('a' + d.below(2)))
}

func (d *drawer) text(most int) string {
	var b strings.Builder
	for range d.below(most + 1) {
		b.WriteByte("aaaabbbc"[d.below(8)])
	}
	return b.String()
}

// texts are all texts of two letters up to some length.
func texts(most int) []string {
	all := []string{""}
	for i := 0; len(all[i]) < most; i++ {
		all = append(all, all[i]+"a", all[i]+"b")
	}
	return all
}

// P7.1, P7.2, P7.3: all trees of a few nodes, in all short texts, from each place and from the two beside.
func TestAllShort(t *testing.T) {
	words := texts(3)
	leaves := []api.Node{empty(), one('a'), one('b')}
	reps := []api.Node{rep(0, 0, -1), rep(0, 0, 1), rep(0, 1, 2), rep(0, 2, 2), rep(0, 2, -1)}
	trees := 0
	var grow func(l []api.Node, orphans []int)
	grow = func(l []api.Node, orphans []int) {
		if len(orphans) == 1 {
			c := copied(l)
			for _, w := range words {
				for from := -1; from <= len(w)+1; from++ {
					ends(t, c, w, from)
				}
			}
			trees++
		}
		if len(l) == 4 {
			return
		}
		put := func(n api.Node, many int) {
			rest := len(orphans) - many
			n.L = append([]int(nil), orphans[rest:]...)
			grow(append(l[:len(l):len(l)], n), append(orphans[:rest:rest], len(l)))
		}
		for _, n := range leaves {
			put(n, 0)
		}
		for many := 1; many <= len(orphans); many++ {
			if many == 1 {
				for _, n := range reps {
					put(n, 1)
				}
				continue
			}
			put(cat(), many)
			put(alt(), many)
		}
	}
	grow(nil, nil)
	if trees < 800 {
		t.Error("trees:", trees)
	}
}

// P7.1, P7.2, P7.3: trees and texts of many shapes, drawn by a rule, from each place.
func TestMixed(t *testing.T) {
	d := drawer(5)
	none, some := 0, 0
	for i := range 4000 {
		l := d.tree(1 + d.below(6+i%30))
		if !syntax.Right(l) {
			t.Fatal("not right:", l)
		}
		w := d.text(4 + i%14)
		for from := range len(w) + 1 {
			if len(ends(t, l, w, from)) > 0 {
				some++
			} else {
				none++
			}
		}
	}
	if none < 2000 || some < 2000 {
		t.Error("none, some:", none, some)
	}
}

// P7.1: the library's patterns mean the same.
func TestByLibrary(t *testing.T) {
	d := drawer(77)
	held := 0
	for i := range 1500 {
		l := d.tree(1 + d.below(5+i%9))
		w := d.text(8)
		from := d.below(len(w) + 1)
		// The library takes no more than 1000 repetitions in all.
		times := 1
		for _, n := range l {
			if n.Op == api.Rep {
				times *= max(1, n.Lo, n.Hi)
			}
		}
		if times > 1000 {
			continue
		}
		held++
		if got, want := lang.Ends(l, w, from), byLibrary(l, w, from); !slices.Equal(got, want) {
			t.Fatalf("%q in %q from %d: %v; by the library %v", shown(l), w, from, got, want)
		}
	}
	if held < 1000 {
		t.Error("held against the library:", held)
	}
}

// put puts a tree behind others, and its root's place.
func put(all, l []api.Node) ([]api.Node, int) {
	at := len(all)
	for _, n := range copied(l) {
		for k := range n.L {
			n.L[k] += at
		}
		all = append(all, n)
	}
	return all, len(all) - 1
}

// unrolled is a Rep without one: as often its kid as it must be, and as often as it may be that or nothing; without an end the kid's star.
func unrolled(kid []api.Node, lo, hi int) []api.Node {
	var all []api.Node
	var kids []int
	add := func(last ...api.Node) {
		var root int
		all, root = put(all, append(copied(kid), last...))
		kids = append(kids, root)
	}
	for range lo {
		add()
	}
	for range hi - lo {
		add(empty(), alt(len(kid)-1, len(kid)))
	}
	if hi < 0 {
		add(rep(len(kid)-1, 0, -1))
	}
	if len(kids) == 1 {
		return all
	}
	return append(all, cat(kids...))
}

// P7.3: a Rep is its kid as often as must be, and as often as may be that or nothing.
func TestRepUnrolled(t *testing.T) {
	d := drawer(1234)
	kids := [][]api.Node{parsed(t, "a"), parsed(t, ""), parsed(t, "ab|a"), parsed(t, "a?"), parsed(t, "a*b|"), parsed(t, "(a|aa){2}")}
	for range 60 {
		kids = append(kids, d.tree(1+d.below(8)))
	}
	some := 0
	for i, kid := range kids {
		for lo := range 5 {
			for _, hi := range []int{-1, 1, 2, 3, 5, 9} {
				if hi > 0 && hi < lo {
					continue
				}
				l := append(copied(kid), rep(len(kid)-1, lo, hi))
				flat := unrolled(kid, lo, hi)
				if !syntax.Right(l) || !syntax.Right(flat) {
					t.Fatal("no trees:", l, flat)
				}
				w := d.text(6 + i%9)
				for from := -1; from <= len(w)+1; from++ {
					got, want := lang.Ends(l, w, from), lang.Ends(flat, w, from)
					if !slices.Equal(got, want) {
						t.Fatalf("%q in %q from %d: %v; %q: %v", shown(l), w, from, got, shown(flat), want)
					}
					some += len(got)
				}
				if lang.Is(l, w) != lang.Is(flat, w) {
					t.Fatalf("%q, %q: one of them is %q", shown(l), shown(flat), w)
				}
			}
		}
	}
	if some < 2000 {
		t.Error("ends:", some)
	}
}

// P7.3: what Nullable tells is whether it ends where it begins, from each place of any text.
func TestNullable(t *testing.T) {
	for _, s := range []string{"", "a", "a*", "a+", "a?b?", "a?b", "a|", "a|b", "()()", "(a|){3}", "(ab){2}", "(a*){4096}", "a{4096}", "a{0,4096}", "(a+|b*)+", "((a|)(b|)){2,}", "(a{0,2}){3,}b*"} {
		l := parsed(t, s)
		for _, w := range append(texts(3), strings.Repeat("ab", 100)) {
			for from := range len(w) + 1 {
				got := lang.Ends(l, w, from)
				if (len(got) > 0 && got[0] == from) != norm.Nullable(l) {
					t.Fatalf("%q in %q from %d: %v", s, w, from, got)
				}
			}
			if lang.Is(l, "") != norm.Nullable(l) {
				t.Errorf("%q", s)
			}
		}
	}
}

// span is the places from one to another.
func span(from, to int) []int {
	var l []int
	for p := from; p <= to; p++ {
		l = append(l, p)
	}
	return l
}

// nested is a leaf and many repetitions of it, of the same bounds.
func nested(leaf api.Node, many, lo, hi int) []api.Node {
	l := []api.Node{leaf}
	for range many {
		l = append(l, rep(len(l)-1, lo, hi))
	}
	return l
}

// P7.1: repetitions within repetitions, as many as a tree has room for: what they tell comes while one may wait.
func TestNested(t *testing.T) {
	w := strings.Repeat("a", 30)
	for i, x := range []struct {
		l    []api.Node
		want []int
	}{
		{nested(one('a'), 1023, 0, -1), span(0, 30)},
		{nested(one('a'), 1023, 1, -1), span(1, 30)},
		{nested(one('a'), 1023, 0, 1), span(0, 1)},
		{nested(one('a'), 1023, 1, 1), span(1, 1)},
		{nested(one('a'), 1023, 1, 2), span(1, 30)},
		{nested(one('a'), 1023, 0, 2), span(0, 30)},
		{nested(one('a'), 1023, 2, 2), nil},
		{nested(one('a'), 4, 2, 2), []int{16}},
		{nested(one('a'), 4, 2, 3), span(16, 30)},
		{nested(one('a'), 1023, 4096, 4096), nil},
		{nested(one('a'), 1023, 4096, -1), nil},
		{nested(one('a'), 1023, 0, 4096), span(0, 30)},
		{nested(one('a'), 1023, 1, 4096), span(1, 30)},
		{nested(empty(), 1023, 4096, 4096), []int{0}},
		{nested(empty(), 1023, 0, -1), []int{0}},
		{nested(empty(), 1023, 4096, -1), []int{0}},
		{nested(one('b'), 1023, 0, -1), []int{0}},
		{nested(one('b'), 1023, 1, -1), nil},
	} {
		if got := lang.Ends(x.l, w, 0); !slices.Equal(got, x.want) {
			t.Errorf("%d: %v, not %v", i, got, x.want)
		}
	}
}

// P7.1: repetitions within repetitions of several ways, which come to the same places again and again, held against the chapter's words.
func TestNestedWays(t *testing.T) {
	for _, s := range []string{"(((((((ab|a){1,2}b?){1,2}a|b){1,3}){1,2}a?){1,2}|ba){1,3}b*){1,2}", "((((((a|b){1,2}){1,2}){1,2}){1,2}){1,2}){1,2}", "(((((((((a*b)*a)*b)*a)*b)*a)*b)*a)*b)*", "(((((a?b){2,}|a){1,3}(b|)){0,4}a{1,2}){2}|b)*"} {
		for _, w := range []string{"abaabbabaabababbabaabbaabababbbaabab", "aaaaaaaaaaaaaaaaaaaaaaaaa", "abababababababababababababab"} {
			l := parsed(t, s)
			for range 4 {
				for from := range 4 {
					ends(t, l, w, from)
				}
				l = append(l, rep(len(l)-1, 1, 2), one('a'), rep(len(l)+1, 0, 1), cat(len(l), len(l)+2))
			}
		}
	}
}

// P7.1: many times in a text of several ways, held against the chapter's words.
func TestManyTimes(t *testing.T) {
	d := drawer(99)
	w := ""
	for len(w) < 700 {
		w += []string{"a", "ab", "b", "ba", "abb"}[d.below(5)]
	}
	for _, s := range []string{"(ab|a|b){300}", "(ab|a|b){300,310}", "(aa?|bb?|ab){290,}", "((a|ab)(b|)|b){260,300}", "(ab|a|ba|b|(ab){2}a){400}", "((a|b){2}|a|b){300,}(ab|b)", "((ab?|ba?){1,2}){270,271}"} {
		l := parsed(t, s)
		if len(ends(t, l, w, 0)) == 0 {
			t.Errorf("%q: no end", s)
		}
		ends(t, l, w, 70)
	}
}

// P7.1, P7.2: long texts.
func TestLongTexts(t *testing.T) {
	const many = 50000
	for _, x := range []struct {
		pattern, w string
		from       int
		want       []int
	}{
		{"a*", strings.Repeat("a", many), 0, span(0, many)},
		{"a*", strings.Repeat("a", many), many - 3, span(many-3, many)},
		{"(a|b)+", strings.Repeat("ab", many/2), 1, span(2, many)},
		{".*b.*", strings.Repeat("ab", many/2), 0, span(2, many)},
		{"a{4096}", strings.Repeat("a", many), 100, []int{4196}},
		{"a{4000,4096}", strings.Repeat("a", many), 100, span(4100, 4196)},
		{"a*b", strings.Repeat("a", many) + "b", 0, []int{many + 1}},
		{"(a*b?)*c", strings.Repeat("ab", many) + "c", 0, []int{2*many + 1}},
		{"a", strings.Repeat("b", many) + "a", many, []int{many + 1}},
		{"ab", strings.Repeat("b", many) + "ab", 63, nil},
		{"(a{64}){3}", strings.Repeat("a", 200), 0, []int{192}},
		{"(a{64}){2,}", strings.Repeat("a", 400), 7, []int{135, 199, 263, 327, 391}},
		{"(xa{99}|x|a|a{99})*", "x" + strings.Repeat("a", 99), 0, span(0, 100)},
		{"(a|aa){300}", strings.Repeat("a", 500), 0, span(300, 500)},
		{"(a|aaa){280,281}", strings.Repeat("a", 800), 100, span(380, 800)},
	} {
		l := parsed(t, x.pattern)
		if got := lang.Ends(l, x.w, x.from); !slices.Equal(got, x.want) {
			t.Errorf("%q in %d bytes from %d: %d ends", x.pattern, len(x.w), x.from, len(got))
		}
	}
	if l := parsed(t, "(ab)*"); !lang.Is(l, strings.Repeat("ab", many)) || lang.Is(l, strings.Repeat("ab", many)+"a") {
		t.Error("Is of a long text")
	}
	if n, ok := lang.Longest(parsed(t, "(ab)*"), strings.Repeat("ab", many)+"a", 2); n != 2*many || !ok {
		t.Error("Longest of a long text:", n, ok)
	}
}

// DOC.md, Rules 4: what is handed in is not changed, and what is behind a list's length is not read.
func TestArgumentsStay(t *testing.T) {
	l := parsed(t, "(a|ab){1,2}(b*|[^c])?")
	for m := range len(l) + 1 {
		c := copied(l)[:m]
		for i := range c {
			c[i].L = append(slices.Clone(c[i].L), 7, 8, 9)[:len(c[i].L)]
		}
		c = append(c, one('r'), ref("none"))[:m]
		for from := -1; from < 8; from++ {
			got, want := lang.Ends(c, "abaabb", from), lang.Ends(copied(l[:m]), "abaabb", from)
			n, ok := lang.Longest(c, "abaabb", from)
			wantN, wantOk := lang.Longest(copied(l[:m]), "abaabb", from)
			if !slices.Equal(got, want) || n != wantN || ok != wantOk || lang.Is(c, "abaabb") != lang.Is(copied(l[:m]), "abaabb") {
				t.Error("what is behind the length tells", m, from)
			}
		}
		for i, n := range c {
			if !sameNode(n, l[i]) || !slices.Equal(n.L[:len(n.L)+3][len(n.L):], []int{7, 8, 9}) {
				t.Error("changed", m, i)
			}
		}
		if behind := c[:m+2][m:]; !sameNode(behind[0], one('r')) || !sameNode(behind[1], ref("none")) {
			t.Error("what is behind is changed", m)
		}
	}
}

// DOC.md, Rules 5: what is answered is the caller's.
func TestAnswersAreNew(t *testing.T) {
	l := parsed(t, "(a|b)*")
	first := lang.Ends(l, "abab", 0)
	second := lang.Ends(l, "abab", 0)
	for i := range first[:cap(first)] {
		first[:cap(first)][i] = -5
	}
	if want := []int{0, 1, 2, 3, 4}; !slices.Equal(second, want) || !slices.Equal(lang.Ends(l, "abab", 0), want) {
		t.Error("an answer is shared:", second)
	}
}
