package split_test

import (
	"math"
	"slices"
	"testing"

	"raddle/api"
	"raddle/bset"
	"raddle/split"
)

// The signatures that the chapter lists.
var (
	_ func(...api.Set) api.Split   = split.Of
	_ func(api.Split, int) api.Set = split.Set
	_ func(api.Split) []byte       = split.First
	_ func(api.Split) bool         = split.Right
)

// full is all 256 bytes.
var full = api.Set{1<<64 - 1, 1<<64 - 1, 1<<64 - 1, 1<<64 - 1}

// has tells whether a byte is in a set.
func has(s api.Set, b int) bool { return s[b/64]>>(b%64)&1 == 1 }

// made is the set of the bytes for which in holds.
func made(in func(b int) bool) api.Set {
	var s api.Set
	for b := range 256 {
		if in(b) {
			s[b/64] |= 1 << (b % 64)
		}
	}
	return s
}

// isRight says by the chapter's own words whether a Split is right: the classes that come for the first time, held against 0 to Many - 1.
func isRight(s api.Split) bool {
	if s.Many < 1 || s.Many > 256 {
		return false
	}
	var come []int
	var seen [256]bool
	for _, c := range s.Of {
		if !seen[c] {
			seen[c] = true
			come = append(come, int(c))
		}
	}
	for k, c := range come {
		if c != k {
			return false
		}
	}
	return len(come) == s.Many
}

// together tells whether each set of l has both bytes, or neither.
func together(l []api.Set, b, c int) bool {
	for _, s := range l {
		if has(s, b) != has(s, c) {
			return false
		}
	}
	return true
}

// mixed is n sets of mixed bits, others for each seed.
func mixed(seed uint64, n int) []api.Set {
	var l []api.Set
	for range n {
		var s api.Set
		for i := range s {
			seed = seed*6364136223846793005 + 1442695040888963407
			s[i] = seed ^ seed>>29
		}
		l = append(l, s)
	}
	return l
}

// each is the sets of each byte alone.
func each() []api.Set {
	var l []api.Set
	for c := range 256 {
		l = append(l, made(func(b int) bool { return b == c }))
	}
	return l
}

// bits is eight sets that tell each two bytes apart.
func bits() []api.Set {
	var l []api.Set
	for i := range 8 {
		l = append(l, made(func(b int) bool { return b>>i&1 == 1 }))
	}
	return l
}

// lists are sets to split by, and how many classes they make (0: it is not told here).
func lists() []struct {
	l    []api.Set
	many int
} {
	word := made(func(b int) bool { return 'a' <= b && b <= 'z' })
	m := made(func(b int) bool { return b == 'm' })
	last := made(func(b int) bool { return b == 255 })
	first := made(func(b int) bool { return b == 0 })
	return []struct {
		l    []api.Set
		many int
	}{
		{nil, 1},
		{[]api.Set{}, 1},
		{[]api.Set{{}}, 1},
		{[]api.Set{full}, 1},
		{[]api.Set{full, {}, full}, 1},
		{[]api.Set{first}, 2},
		{[]api.Set{last}, 2},
		{[]api.Set{first, last}, 3},
		{[]api.Set{word, word, word}, 2},
		{[]api.Set{word, bset.Not(word)}, 2},
		{[]api.Set{word, m}, 3},
		{[]api.Set{m, word}, 3},
		{[]api.Set{m, word, m, {}, full, bset.Not(m)}, 3},
		{[]api.Set{bset.Range(0, 199), bset.Range(100, 255)}, 3},
		{[]api.Set{bset.Range(0, 127), bset.Of(0, 1, 2, 128, 129, 130)}, 4},
		{bits(), 256},
		{bits()[1:], 128},
		{bits()[:7], 128},
		{each(), 256},
		{each()[1:], 256},
		{each()[:255], 256},
		{each()[2:], 255},
		{each()[:254], 255},
		{slices.Concat(bits(), each(), mixed(7, 3)), 256},
		{mixed(1, 1), 2},
		{mixed(2, 2), 4},
		{mixed(3, 3), 8},
		{mixed(4, 5), 0},
		{mixed(5, 7), 0},
		{mixed(6, 9), 0},
		{mixed(8, 300), 256},
	}
}

// wrong are Splits that are not right: no Many or a wrong one, classes out of order, left out, or beyond Many.
func wrong() []api.Split {
	three := split.Of(bset.Range('a', 'c'), bset.Of('b'))
	all := split.Of(each()...)
	var l []api.Split
	for _, s := range []api.Split{{}, three, all} {
		for _, many := range []int{math.MinInt, -256, -1, 0, 1, 2, 3, 4, 5, 255, 256, 257, 300, 512, math.MaxInt} {
			s.Many = many
			if !isRight(s) {
				l = append(l, s)
			}
		}
	}
	for _, many := range []int{1, 2, 3, 4, 256} {
		late := api.Split{Many: many} // class 2 comes ahead of 1
		late.Of[9], late.Of[10] = 2, 1
		none := api.Split{Many: many} // class 0 has no byte
		for b := range none.Of {
			none.Of[b] = 1
		}
		gap := api.Split{Many: many} // class 1 has no byte
		gap.Of[255] = 2
		far := api.Split{Many: many} // classes far beyond Many
		far.Of[0], far.Of[7], far.Of[8] = 255, 254, 255
		l = append(l, late, none, gap, far)
	}
	back := api.Split{Many: 256} // 255 down to 0
	for b := range back.Of {
		back.Of[b] = uint8(255 - b)
	}
	return append(l, back)
}

func TestOf(t *testing.T) { // P2.1
	for i, c := range lists() {
		s := split.Of(c.l...)
		if !isRight(s) {
			t.Error(i, "not right:", s)
		}
		if c.many != 0 && s.Many != c.many {
			t.Error(i, "classes:", s.Many, "not", c.many)
		}
		for b := range 256 {
			for d := range 256 {
				if (s.Of[b] == s.Of[d]) != together(c.l, b, d) {
					t.Fatal(i, "bytes", b, d, "of classes", s.Of[b], s.Of[d])
				}
			}
		}
	}
}

func TestOfNoSet(t *testing.T) { // P2.1
	want := api.Split{Many: 1}
	if split.Of() != want || split.Of([]api.Set(nil)...) != want || split.Of([]api.Set{}...) != want {
		t.Error(split.Of())
	}
}

func TestOfNumbersByRisingBytes(t *testing.T) { // P2.1
	s := split.Of(bset.Of(0, 200), bset.Of(255), bset.Of(7, 0))
	want := api.Split{Many: 5}
	for b := range want.Of {
		want.Of[b] = 1
	}
	want.Of[0], want.Of[7], want.Of[200], want.Of[255] = 0, 2, 3, 4
	if s != want {
		t.Error(s)
	}
	s = split.Of(each()...)
	for b, k := range s.Of {
		if int(k) != b {
			t.Error("each byte alone:", b, k)
		}
	}
}

func TestOfHangsOnWhichSetsAlone(t *testing.T) { // P2.1: neither their order, nor how often, nor which side
	for i, c := range lists() {
		want := split.Of(c.l...)
		back := slices.Clone(c.l)
		slices.Reverse(back)
		if split.Of(back...) != want {
			t.Error(i, "backwards")
		}
		if split.Of(slices.Concat(c.l, back, c.l)...) != want {
			t.Error(i, "thrice")
		}
		if split.Of(slices.Concat(c.l, []api.Set{{}, full})...) != want {
			t.Error(i, "with none and all")
		}
		for j := range back {
			back[j] = bset.Not(back[j])
		}
		if split.Of(back...) != want {
			t.Error(i, "of all others")
		}
	}
}

func TestSet(t *testing.T) { // P2.2
	// Of a Split that is not right, too, a byte's class is what Of says of it, whatever Many is.
	l := wrong()
	for _, c := range lists() {
		l = append(l, split.Of(c.l...))
	}
	for i, s := range l {
		for k := -300; k <= 600; k++ {
			want := made(func(b int) bool { return int(s.Of[b]) == k })
			if got := split.Set(s, k); got != want {
				t.Fatal(i, "class", k, got)
			}
		}
		for _, k := range []int{math.MinInt, math.MinInt32, math.MaxInt32, math.MaxInt, 1 << 32, -1 << 32} {
			if got := split.Set(s, k); got != (api.Set{}) {
				t.Error(i, "class", k, got)
			}
		}
	}
}

func TestSetOfNoClass(t *testing.T) { // P2.2
	s := split.Of(bset.Range('a', 'z'))
	for _, k := range []int{-256, -255, -1, 2, 3, 255, 256, 257} {
		if got := split.Set(s, k); got != (api.Set{}) {
			t.Error(k, got)
		}
	}
	if split.Set(s, 0) != bset.Not(bset.Range('a', 'z')) || split.Set(s, 1) != bset.Range('a', 'z') {
		t.Error("classes 0 and 1")
	}
	s.Many = 3
	if got := split.Set(s, 2); got != (api.Set{}) {
		t.Error("a class that has no byte:", got)
	}
	if split.Set(split.Of(), 0) != full || split.Set(split.Of(), 1) != (api.Set{}) {
		t.Error("one class")
	}
}

// firsts is First by the chapter's own words.
func firsts(s api.Split) []byte {
	if s.Many < 1 || s.Many > 256 {
		return nil
	}
	var l []byte
	for k := range s.Many {
		least := 0
		for b := range 256 {
			if int(s.Of[b]) == k {
				least = b
				break
			}
		}
		l = append(l, byte(least))
	}
	return l
}

func TestFirst(t *testing.T) { // P2.2
	l := wrong()
	for _, c := range lists() {
		l = append(l, split.Of(c.l...))
	}
	for i, s := range l {
		if got := split.First(s); !slices.Equal(got, firsts(s)) {
			t.Error(i, s.Many, got)
		}
	}
	s := split.Of(bset.Of(3), bset.Of(200, 201))
	if got := split.First(s); !slices.Equal(got, []byte{0, 3, 200}) {
		t.Error(got)
	}
	for _, c := range []struct {
		many int
		want []byte
	}{
		{math.MinInt, nil}, {-1, nil}, {0, nil},
		{1, []byte{0}},
		{2, []byte{0, 3}}, // though there is a class 2
		{4, []byte{0, 3, 200, 0}},
		{256, append([]byte{0, 3, 200}, make([]byte, 253)...)},
		{257, nil}, {512, nil}, {math.MaxInt, nil},
	} {
		s.Many = c.many
		if got := split.First(s); !slices.Equal(got, c.want) {
			t.Error("Many", c.many, got)
		}
	}
	for i, b := range split.First(split.Of(each()...)) {
		if int(b) != i {
			t.Error("each byte alone:", i, b)
		}
	}
}

func TestRight(t *testing.T) { // P2.2
	for i, c := range lists() {
		s := split.Of(c.l...)
		if !split.Right(s) {
			t.Error(i, "not right:", s)
		}
		many := s.Many
		for _, m := range []int{math.MinInt, many - 256, many - 1, many + 1, many + 256, many + 1<<32, math.MaxInt} {
			s.Many = m
			if split.Right(s) {
				t.Error(i, "right with Many", m)
			}
		}
	}
	for i, s := range wrong() {
		if split.Right(s) {
			t.Error(i, "right:", s)
		}
	}
	if split.Right(api.Split{}) || !split.Right(api.Split{Many: 1}) {
		t.Error("all bytes of class 0")
	}
}

func TestRightWithOneByteOfAnotherClass(t *testing.T) { // P2.2
	for _, s := range []api.Split{split.Of(), split.Of(bset.Range('a', 'c'), bset.Of('b')), split.Of(each()...)} {
		for b := range 256 {
			for k := range 256 {
				for m := -1; m <= 1; m++ {
					one := s
					one.Of[b] = uint8(k)
					one.Many += m
					if split.Right(one) != isRight(one) {
						t.Fatal(s.Many, b, k, m)
					}
				}
			}
		}
	}
}

// classesOf is the sets of all classes.
func classesOf(s api.Split) []api.Set {
	var l []api.Set
	for k := range s.Many {
		l = append(l, split.Set(s, k))
	}
	return l
}

func TestCoarsest(t *testing.T) { // P2.3
	for i, c := range lists() {
		s := split.Of(c.l...)
		classes := classesOf(s)
		if bset.Or(classes...) != full {
			t.Error(i, "bytes of no class")
		}
		for k, p := range classes {
			if p == (api.Set{}) {
				t.Error(i, "a class without a byte:", k)
			}
			for _, x := range c.l {
				if in := bset.And(p, x); in != p && in != (api.Set{}) {
					t.Error(i, "a set has a part of class", k)
				}
			}
			for m, q := range classes[:k] {
				if bset.And(p, q) != (api.Set{}) {
					t.Error(i, "a byte of both", k, m)
				}
				if !toldApart(c.l, p, q) {
					t.Error(i, "no set tells apart", k, m)
				}
			}
		}
	}
}

// toldApart tells whether a set of l has all of one class and none of the other.
func toldApart(l []api.Set, p, q api.Set) bool {
	return slices.ContainsFunc(l, func(x api.Set) bool {
		hasP, hasQ := bset.And(p, x) == p, bset.And(q, x) == q
		return hasP && bset.And(q, x) == (api.Set{}) || hasQ && bset.And(p, x) == (api.Set{})
	})
}

func TestSplitByItsClasses(t *testing.T) { // P2.3: the classes themselves make the same Split
	for i, c := range lists() {
		s := split.Of(c.l...)
		if split.Of(classesOf(s)...) != s {
			t.Error(i)
		}
	}
}

func TestExample(t *testing.T) {
	s := split.Of(bset.Range('a', 'c'), bset.Of('b'))
	want := api.Split{Many: 3}
	want.Of['a'], want.Of['b'], want.Of['c'] = 1, 2, 1
	if s != want {
		t.Error(s)
	}
}

// What is handed in stays as it is, and what is behind a list's length is not read (DOC.md, Rules 4).
func TestArgumentsStay(t *testing.T) {
	sets := []api.Set{bset.Of('a', 'b'), bset.Of('b'), bset.Of('c'), full}
	before := slices.Clone(sets)
	if s := split.Of(sets[:2]...); s.Many != 3 || s.Of['c'] != 0 {
		t.Error("Of:", s)
	}
	if !slices.Equal(sets, before) {
		t.Error("Of changed its sets:", sets)
	}
}

// What is answered is the caller's (DOC.md, Rules 5).
func TestAnswersAreNew(t *testing.T) {
	s := split.Of(bset.Of('a'), bset.Of('b'))
	one, two := split.First(s), split.First(s)
	clear(one[:cap(one)])
	if string(two) != "\x00ab" || string(split.First(s)) != "\x00ab" {
		t.Error("First shares memory")
	}
}
