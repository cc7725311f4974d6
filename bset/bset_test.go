package bset_test

import (
	"slices"
	"testing"

	"raddle/api"
	"raddle/bset"
)

// The signatures that the chapter lists.
var (
	_ func(...byte) api.Set    = bset.Of
	_ func(byte, byte) api.Set = bset.Range
	_ func(...api.Set) api.Set = bset.Or
	_ func(...api.Set) api.Set = bset.And
	_ func(api.Set) api.Set    = bset.Not
	_ func(api.Set, byte) bool = bset.Has
	_ func(api.Set) []byte     = bset.List
	_ func(api.Set) api.Set    = bset.Fold
	_ func(api.Set) [][2]byte  = bset.Spans
)

// full is all 256 bytes, written out so that it leans on nothing that is tested.
var full = api.Set{1<<64 - 1, 1<<64 - 1, 1<<64 - 1, 1<<64 - 1}

// has says by the chapter's own words whether a byte is in a set.
func has(s [4]uint64, b int) bool {
	n := s[b/64]
	for range b % 64 {
		n /= 2
	}
	return n%2 == 1
}

// made is the set of the bytes for which in holds, made without the package.
func made(in func(b int) bool) api.Set {
	var s api.Set
	for b := 255; b >= 0; b-- {
		s[b/64] *= 2
		if in(b) {
			s[b/64]++
		}
	}
	return s
}

// samples are sets of many shapes: none, all, each byte alone, edges, letters, mixed bits.
func samples() []api.Set {
	l := []api.Set{
		{},
		full,
		{1 | 1<<63, 1, 0, 1 << 63},
		{1<<64 - 1, 0, 1<<64 - 1, 0},
		{0x5555555555555555, 0x5555555555555555, 0x5555555555555555, 0x5555555555555555},
		{0xaaaaaaaaaaaaaaaa, 0xaaaaaaaaaaaaaaaa, 0xaaaaaaaaaaaaaaaa, 0xaaaaaaaaaaaaaaaa},
	}
	for c := range 256 {
		l = append(l, made(func(b int) bool { return b == c }))
	}
	n := uint64(1)
	for range 40 {
		var s api.Set
		for i := range s {
			n = n*6364136223846793005 + 1442695040888963407
			s[i] = n ^ n>>29
		}
		l = append(l, s)
	}
	return l
}

// few is those samples of which every pair or triple can be tried.
func few() []api.Set {
	l := samples()
	return slices.Concat(l[:8], l[68:72], l[len(l)-10:])
}

func isLower(b int) bool { return 'a' <= b && b <= 'z' }
func isUpper(b int) bool { return 'A' <= b && b <= 'Z' }

func TestOf(t *testing.T) { // P1.1
	if s := bset.Of(); s != (api.Set{}) {
		t.Error("no bytes:", s)
	}
	if s := bset.Of([]byte(nil)...); s != (api.Set{}) {
		t.Error("nil:", s)
	}
	if s := bset.Of(0, 63, 64, 255); s != (api.Set{1 | 1<<63, 1, 0, 1 << 63}) {
		t.Error("edges:", s)
	}
	if s := bset.Of('b', 'a', 'b', 'b'); s != made(func(b int) bool { return b == 'a' || b == 'b' }) {
		t.Error("twice, and not rising:", s)
	}
	var all []byte
	for c := range 256 {
		all = append(all, byte(c))
		if s := bset.Of(byte(c)); s != made(func(b int) bool { return b == c }) {
			t.Error(c, s)
		}
		if s := bset.Of(all...); s != made(func(b int) bool { return b <= c }) {
			t.Error("up to", c, s)
		}
	}
}

func TestRange(t *testing.T) { // P1.1
	for lo := range 256 {
		for hi := range 256 {
			want := made(func(b int) bool { return lo <= b && b <= hi })
			if s := bset.Range(byte(lo), byte(hi)); s != want {
				t.Fatal(lo, hi, s)
			}
		}
	}
	if bset.Range(0, 255) != full || bset.Range(255, 0) != (api.Set{}) || bset.Range(64, 63) != (api.Set{}) {
		t.Error("edges")
	}
}

func TestOrWithAnd(t *testing.T) { // P1.1
	if s := bset.Or(); s != (api.Set{}) {
		t.Error("Or of no set:", s)
	}
	if s := bset.And(); s != full {
		t.Error("And of no set:", s)
	}
	if bset.Or([]api.Set(nil)...) != (api.Set{}) || bset.And([]api.Set(nil)...) != full {
		t.Error("nil")
	}
	for _, p := range samples() {
		if bset.Or(p) != p || bset.And(p) != p {
			t.Error("one set:", p)
		}
	}
	for _, p := range few() {
		for _, q := range few() {
			checkThree(t, p, q, full)
			for _, r := range few() {
				checkThree(t, p, q, r)
			}
		}
	}
}

func checkThree(t *testing.T, p, q, r api.Set) {
	t.Helper()
	if s := bset.Or(p, q, r); s != made(func(b int) bool { return has(p, b) || has(q, b) || has(r, b) }) {
		t.Error("Or", p, q, r, s)
	}
	if s := bset.And(p, q, r); s != made(func(b int) bool { return has(p, b) && has(q, b) && has(r, b) }) {
		t.Error("And", p, q, r, s)
	}
}

func TestManySets(t *testing.T) { // P1.1: however many
	var each, without []api.Set
	for c := range 256 {
		each = append(each, made(func(b int) bool { return b == c }))
		without = append(without, made(func(b int) bool { return b != c }))
	}
	if bset.Or(each...) != full || bset.And(each...) != (api.Set{}) {
		t.Error("each byte alone")
	}
	if bset.And(without...) != (api.Set{}) || bset.Or(without...) != full {
		t.Error("all but one byte")
	}
	if s := bset.Or(each[:255]...); s != without[255] {
		t.Error("Or of all but the last:", s)
	}
	if s := bset.And(without[1:]...); s != each[0] {
		t.Error("And of all but the first:", s)
	}
}

func TestNotHasList(t *testing.T) { // P1.1
	for _, s := range samples() {
		if n := bset.Not(s); n != made(func(b int) bool { return !has(s, b) }) {
			t.Error("Not", s, n)
		}
		var want []byte
		for c := range 256 {
			if has(s, c) {
				want = append(want, byte(c))
			}
			if bset.Has(s, byte(c)) != has(s, c) {
				t.Error("Has", s, c)
			}
		}
		if l := bset.List(s); !slices.Equal(l, want) {
			t.Error("List", s, l)
		}
	}
	if bset.Not(full) != (api.Set{}) || bset.Not(api.Set{}) != full {
		t.Error("Not: none and all")
	}
	if len(bset.List(api.Set{})) != 0 || len(bset.List(full)) != 256 {
		t.Error("List: none and all")
	}
}

func TestFold(t *testing.T) { // P1.2
	for _, s := range samples() {
		want := made(func(b int) bool {
			return has(s, b) || isUpper(b) && has(s, b+32) || isLower(b) && has(s, b-32)
		})
		if f := bset.Fold(s); f != want {
			t.Error(s, f)
		}
		if bset.Fold(bset.Fold(s)) != bset.Fold(s) {
			t.Error("twice:", s)
		}
	}
	for _, c := range []struct{ in, want string }{
		{"", ""},
		{"a", "Aa"}, {"z", "Zz"}, {"A", "Aa"}, {"Z", "Zz"},
		{"aZ", "AZaz"}, {"mM", "Mm"},
		{"@[`{", "@[`{"}, // beside the letters' ends
		{"\x00 5?\x7f", "\x00 5?\x7f"},
		{"\xc1\xe1\xda\xfa", "\xc1\xda\xe1\xfa"}, // no letters, though 128 beside some
	} {
		if l := bset.List(bset.Fold(bset.Of([]byte(c.in)...))); string(l) != c.want {
			t.Errorf("Fold of %q: %q, not %q", c.in, l, c.want)
		}
	}
}

func TestSpans(t *testing.T) { // P1.2
	for _, c := range []struct {
		in   []byte
		want [][2]byte
	}{
		{nil, nil},
		{[]byte{0}, [][2]byte{{0, 0}}},
		{[]byte{255}, [][2]byte{{255, 255}}},
		{[]byte{0, 255}, [][2]byte{{0, 0}, {255, 255}}}, // the bytes have ends: 0 doesn't follow 255
		{[]byte{0, 1, 254, 255}, [][2]byte{{0, 1}, {254, 255}}},
		{[]byte{63, 64}, [][2]byte{{63, 64}}}, // across two numbers of a set
		{[]byte{62, 64}, [][2]byte{{62, 62}, {64, 64}}},
		{[]byte{127, 128, 191, 192}, [][2]byte{{127, 128}, {191, 192}}},
		{[]byte("abcz"), [][2]byte{{'a', 'c'}, {'z', 'z'}}},
	} {
		if l := bset.Spans(bset.Of(c.in...)); !slices.Equal(l, c.want) {
			t.Error(c.in, l)
		}
	}
	if l := bset.Spans(full); !slices.Equal(l, [][2]byte{{0, 255}}) {
		t.Error("all:", l)
	}
	odd := bset.Spans(api.Set{0xaaaaaaaaaaaaaaaa, 0xaaaaaaaaaaaaaaaa, 0xaaaaaaaaaaaaaaaa, 0xaaaaaaaaaaaaaaaa})
	if len(odd) != 128 || odd[0] != [2]byte{1, 1} || odd[127] != [2]byte{255, 255} {
		t.Error("the odd bytes:", odd)
	}
}

func TestSpansOfEachRange(t *testing.T) { // P1.2
	for lo := range 256 {
		for hi := lo; hi < 256; hi++ {
			s := made(func(b int) bool { return lo <= b && b <= hi })
			if l := bset.Spans(s); !slices.Equal(l, [][2]byte{{byte(lo), byte(hi)}}) {
				t.Fatal(lo, hi, l)
			}
		}
	}
}

func TestSpansAreTheSet(t *testing.T) { // P1.3
	for _, s := range samples() {
		var parts []api.Set
		end := -2
		for _, p := range bset.Spans(s) {
			if int(p[0]) <= end+1 || p[1] < p[0] {
				t.Error("not rising, or not as long as can be:", s, p)
			}
			end = int(p[1])
			parts = append(parts, bset.Range(p[0], p[1]))
		}
		if bset.Or(parts...) != s {
			t.Error(s)
		}
	}
}

func TestAlgebra(t *testing.T) { // P1.3
	none, or, and, not := api.Set{}, bset.Or, bset.And, bset.Not
	for _, p := range samples() {
		laws(t, p, none, none,
			or(p, none) == p, and(p, full) == p,
			or(p, full) == full, and(p, none) == none,
			or(p, not(p)) == full, and(p, not(p)) == none,
			or(p, p) == p, and(p, p) == p, not(not(p)) == p)
	}
	for _, p := range few() {
		for _, q := range few() {
			laws(t, p, q, none,
				or(p, q) == or(q, p), and(p, q) == and(q, p),
				or(p, and(p, q)) == p, and(p, or(p, q)) == p,
				not(or(p, q)) == and(not(p), not(q)), not(and(p, q)) == or(not(p), not(q)))
			for _, r := range few() {
				laws(t, p, q, r,
					or(p, or(q, r)) == or(or(p, q), r), and(p, and(q, r)) == and(and(p, q), r),
					or(p, q, r) == or(p, or(q, r)), and(p, q, r) == and(p, and(q, r)),
					or(p, and(q, r)) == and(or(p, q), or(p, r)), and(p, or(q, r)) == or(and(p, q), and(p, r)))
			}
		}
	}
}

// laws fails for each law that p, q and r break, told by its place.
func laws(t *testing.T, p, q, r api.Set, held ...bool) {
	t.Helper()
	for i, ok := range held {
		if !ok {
			t.Error("law", i, "does not hold:", p, q, r)
		}
	}
}

func TestExamples(t *testing.T) {
	s := bset.Or(bset.Range('a', 'c'), bset.Of('z'))
	if l := bset.List(s); string(l) != "abcz" {
		t.Error(l)
	}
	if l := bset.Spans(s); !slices.Equal(l, [][2]byte{{'a', 'c'}, {'z', 'z'}}) {
		t.Error(l)
	}
	if l := bset.List(bset.Fold(bset.Of('a'))); string(l) != "Aa" {
		t.Error(l)
	}
}

// What is handed in stays as it is, and what is behind a list's length is not read (DOC.md, Rules 4).
func TestArgumentsStay(t *testing.T) {
	bytes := []byte{'c', 'a', 'c', 'x', 'y'}
	if s := bset.Of(bytes[:3]...); s != made(func(b int) bool { return b == 'a' || b == 'c' }) {
		t.Error("Of:", s)
	}
	if string(bytes) != "cacxy" {
		t.Error("Of changed its bytes:", bytes)
	}
	sets := []api.Set{{6, 1}, {3, 1}, {8}, full}
	before := slices.Clone(sets)
	if s := bset.Or(sets[:2]...); s != (api.Set{7, 1}) {
		t.Error("Or:", s)
	}
	if s := bset.And(sets[:2]...); s != (api.Set{2, 1}) {
		t.Error("And:", s)
	}
	if !slices.Equal(sets, before) {
		t.Error("the sets were changed:", sets)
	}
}

// What is answered is the caller's (DOC.md, Rules 5).
func TestAnswersAreNew(t *testing.T) {
	s := made(func(b int) bool { return b == 'a' || b == 'b' || b == 'z' })
	one, two := bset.List(s), bset.List(s)
	clear(one[:cap(one)])
	if string(two) != "abz" || string(bset.List(s)) != "abz" {
		t.Error("List shares memory")
	}
	want := [][2]byte{{'a', 'b'}, {'z', 'z'}}
	p, q := bset.Spans(s), bset.Spans(s)
	clear(p[:cap(p)])
	if !slices.Equal(q, want) || !slices.Equal(bset.Spans(s), want) {
		t.Error("Spans shares memory")
	}
}
