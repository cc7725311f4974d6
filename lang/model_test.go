package lang_test

import (
	"maps"
	"regexp"
	"slices"
	"strconv"
	"strings"
	"testing"

	"raddle/api"
	"raddle/lang"
	"raddle/norm"
	"raddle/print"
	"raddle/syntax"
)

func empty() api.Node { return api.Node{Op: api.Empty} }

// bytes is a node of the bytes for which in holds.
func bytes(in func(b int) bool) api.Node {
	var s api.Set
	for b := range 256 {
		if in(b) {
			s[b/64] |= 1 << (b % 64)
		}
	}
	return api.Node{Op: api.Bytes, S: s}
}

func one(c byte) api.Node { return bytes(func(b int) bool { return b == int(c) }) }

func cat(kids ...int) api.Node { return api.Node{Op: api.Cat, L: kids} }

func alt(kids ...int) api.Node { return api.Node{Op: api.Alt, L: kids} }

func rep(kid, lo, hi int) api.Node {
	return api.Node{Op: api.Rep, L: []int{kid}, Lo: lo, Hi: hi}
}

func ref(name string) api.Node { return api.Node{Op: api.Ref, Name: name} }

func sameNode(a, b api.Node) bool {
	return a.Op == b.Op && a.S == b.S && slices.Equal(a.L, b.L) && a.Lo == b.Lo && a.Hi == b.Hi && a.Name == b.Name
}

// copied is nodes that share nothing with others.
func copied(l []api.Node) []api.Node {
	c := slices.Clone(l)
	for i := range c {
		c[i].L = slices.Clone(c[i].L)
	}
	return c
}

// parsed is what Parse tells of a pattern that must be one.
func parsed(t *testing.T, s string) []api.Node {
	t.Helper()
	l, at, e := syntax.Parse(s)
	if len(l) == 0 || at != 0 || e != api.OK {
		t.Fatalf("%.60q of %d bytes: %d nodes, at %d: %d", s, len(s), len(l), at, e)
	}
	return l
}

// shown is a tree as a pattern, for what a test says.
func shown(l []api.Node) string {
	s, _ := print.Tree(l)
	return s
}

type set map[int]bool

// model finds ends by the chapter's own words. It keeps what it told, so that trees of some size take no longer than one may wait.
type model struct {
	l    []api.Node
	w    string
	told map[[2]int]set
}

// ends is where the node at a place of the tree may end, from a place of the text on.
func (m *model) ends(node, from int) set {
	key := [2]int{node, from}
	if s, there := m.told[key]; there {
		return s
	}
	n := m.l[node]
	s := set{}
	switch n.Op {
	case api.Empty:
		s[from] = true
	case api.Bytes:
		if from < len(m.w) {
			b := m.w[from]
			if n.S[b/64]>>(b%64)&1 == 1 {
				s[from+1] = true
			}
		}
	case api.Cat:
		s[from] = true
		for _, kid := range n.L {
			s = m.step(kid, s)
		}
	case api.Alt:
		for _, kid := range n.L {
			maps.Copy(s, m.ends(kid, from))
		}
	case api.Rep:
		s = m.times(n, from)
	}
	m.told[key] = s
	return s
}

// step is where a node may end from any of some places.
func (m *model) step(node int, from set) set {
	s := set{}
	for f := range from {
		maps.Copy(s, m.ends(node, f))
	}
	return s
}

// times is where a Rep may end: behind each number of times by itself, one after the other.
func (m *model) times(n api.Node, from int) set {
	most := n.Hi
	if most < 0 {
		// Of more times than this some must have taken nothing, though they need not be there.
		most = n.Lo + len(m.w) + 1
	}
	all := set{}
	at := set{from: true}
	for k := 0; k <= most && len(at) > 0; k++ {
		if k >= n.Lo {
			maps.Copy(all, at)
		}
		at = m.step(n.L[0], at)
	}
	return all
}

// told is what Ends tells of a tree and a place that may be, by the chapter's own words.
func told(l []api.Node, w string, from int) []int {
	m := model{l, w, map[[2]int]set{}}
	return slices.Sorted(maps.Keys(m.ends(len(l)-1, from)))
}

// ends is what Ends tells, held against the chapter's words; and so are Longest, Is, and what follows of Nullable.
func ends(t *testing.T, l []api.Node, w string, from int) []int {
	t.Helper()
	got := lang.Ends(l, w, from)
	want := []int{}
	if from >= 0 && from <= len(w) {
		want = told(l, w, from)
		if slices.Contains(got, from) != norm.Nullable(l) {
			t.Fatalf("%q in %.60q from %d: %v, and Nullable says %t", shown(l), w, from, got, norm.Nullable(l))
		}
	}
	if !slices.Equal(got, want) {
		t.Fatalf("%q in %.60q from %d: %v, not %v", shown(l), w, from, got, want)
	}
	farthest, far := 0, false
	for _, p := range want {
		if p > from {
			farthest, far = p, true
		}
	}
	if n, ok := lang.Longest(l, w, from); n != farthest || ok != far {
		t.Fatalf("%q in %.60q from %d: the longest ends at %d, %t, not %d, %t", shown(l), w, from, n, ok, farthest, far)
	}
	if from == 0 && lang.Is(l, w) != slices.Contains(want, len(w)) {
		t.Fatalf("%q is %.60q: %t", shown(l), w, lang.Is(l, w))
	}
	return got
}

// library is the tree as a pattern of the library's, of bytes below 128 alone.
func library(l []api.Node, node int) string {
	n := l[node]
	var kids []string
	for _, k := range n.L {
		kids = append(kids, "(?:"+library(l, k)+")")
	}
	switch n.Op {
	case api.Bytes:
		var b strings.Builder
		for c := range 128 {
			if n.S[c/64]>>(c%64)&1 == 1 {
				b.WriteString("\\x{" + strconv.FormatInt(int64(c), 16) + "}")
			}
		}
		return "[" + b.String() + "]"
	case api.Cat:
		return strings.Join(kids, "")
	case api.Alt:
		return strings.Join(kids, "|")
	case api.Rep:
		hi := ""
		if n.Hi >= 0 {
			hi = strconv.Itoa(n.Hi)
		}
		return kids[0] + "{" + strconv.Itoa(n.Lo) + "," + hi + "}"
	}
	return ""
}

// byLibrary is where a tree may end, by the library's patterns: each piece of the text is held against it by itself.
func byLibrary(l []api.Node, w string, from int) []int {
	pattern := regexp.MustCompile("^(?:" + library(l, len(l)-1) + ")\\z")
	var places []int
	for p := from; p <= len(w); p++ {
		if pattern.MatchString(w[from:p]) {
			places = append(places, p)
		}
	}
	return places
}
