package nca_test

import (
	"math"
	"slices"
	"strconv"
	"strings"
	"testing"

	"raddle/api"
	"raddle/nca"
)

// The calls are those of the chapter.
var (
	_ func() api.Config                             = nca.Start
	_ func(api.Glush, api.Config) bool              = nca.Right
	_ func(api.Glush, api.Config, byte) api.Config  = nca.Step
	_ func(api.Glush, api.Config) int               = nca.Rule
	_ func(api.Glush, string, int) (int, int, bool) = nca.Longest
)

// good is places of all kinds that are right.
func good() api.Glush {
	return api.Glush{First: []int{0, 2}, P: []api.Pos{
		{S: some('a', 'b'), Lo: 1, Hi: 1, Rule: 4, Last: true, Next: []int{0, 1, 3}},
		{S: some('a'), Lo: 2, Hi: 3, Rule: 2, Last: true, Next: []int{1, 3}},
		{S: some('a', 0, 255), Lo: 4096, Hi: 4096, Rule: 511, Last: true, Next: []int{2}},
		{S: some('b'), Lo: 1, Hi: 4, Rule: 3, Next: []int{0, 3}},
	}}
}

// wrongPlaces are places that are not right, each a bit off good ones.
func wrongPlaces() []api.Glush {
	var l []api.Glush
	for _, spoil := range []func(g *api.Glush){
		func(g *api.Glush) { g.First = []int{2, 0} },
		func(g *api.Glush) { g.First = []int{0, 0} },
		func(g *api.Glush) { g.First = []int{0, 4} },
		func(g *api.Glush) { g.First = []int{-1, 0} },
		func(g *api.Glush) { g.First = []int{math.MaxInt} },
		func(g *api.Glush) { g.P[0].S = api.Set{} },
		func(g *api.Glush) { g.P[3].S = api.Set{} },
		func(g *api.Glush) { g.P[0].Lo = 0 },
		func(g *api.Glush) { g.P[1].Lo = 4 },
		func(g *api.Glush) { g.P[3].Lo = -1 },
		func(g *api.Glush) { g.P[2].Hi = 4097 },
		func(g *api.Glush) { g.P[1].Hi = math.MaxInt },
		func(g *api.Glush) { g.P[1].Rule = -1 },
		func(g *api.Glush) { g.P[3].Rule = 512 },
		func(g *api.Glush) { g.P[0].Next = []int{1, 0} },
		func(g *api.Glush) { g.P[0].Next = []int{1, 1} },
		func(g *api.Glush) { g.P[1].Next = []int{4} },
		func(g *api.Glush) { g.P[3].Next = []int{-1} },
		func(g *api.Glush) { g.P[2].Next = []int{math.MinInt} },
		func(g *api.Glush) { g.P = append(g.P, slices.Repeat(g.P[3:], 509)...) },
		func(g *api.Glush) { g.P = nil },
	} {
		g := good()
		spoil(&g)
		l = append(l, g)
	}
	return l
}

func at(l ...api.Held) api.Config { return api.Config{L: l} }

func held(place int, counts ...int) api.Held { return api.Held{P: place, N: counts} }

func upTo(n int) []int {
	var l []int
	for i := range n {
		l = append(l, i+1)
	}
	return l
}

// rightConfigs are Configs of good places.
func rightConfigs() []api.Config {
	return []api.Config{
		{Begin: true}, {}, at(held(0, 1)), at(held(1, 1)), at(held(1, 2)), at(held(1, 3)), at(held(1, 1, 2)), at(held(1, 1, 3)), at(held(1, 2, 3)), at(held(1, 1, 2, 3)),
		at(held(2, 1)), at(held(2, 4095)), at(held(2, 4096)), at(held(2, 1, 4096)), at(held(2, upTo(4096)...)), at(held(3, 1)), at(held(3, 2, 4)), at(held(3, 1, 2, 3, 4)),
		at(held(0, 1), held(1, 3)), at(held(0, 1), held(3, 3)), at(held(1, 1, 2), held(2, 7)), at(held(2, 4096), held(3, 4)), at(held(0, 1), held(1, 1, 2), held(2, 1, 9, 17), held(3, 2, 3, 4)),
	}
}

// wrongConfigs are Configs that are not right with good places.
func wrongConfigs() []api.Config {
	l := []api.Config{
		// The beginning, and places.
		{Begin: true, L: []api.Held{held(0, 1)}}, {Begin: true, L: []api.Held{held(1, 1, 2), held(3, 4)}}, {Begin: true, L: []api.Held{held(0)}}, {Begin: true, L: []api.Held{{P: -1}}},
		// Places that do not rise, stand twice, or that there are not.
		at(held(1, 1), held(0, 1)), at(held(3, 4), held(2, 1)), at(held(0, 1), held(3, 1), held(1, 1)), at(held(0, 1), held(0, 1)), at(held(1, 1), held(1, 2)), at(held(0, 1), held(3, 1), held(3, 2)),
		at(held(-1, 1)), at(held(4, 1)), at(held(-1, 1), held(0, 1)), at(held(3, 1), held(4, 1)), at(held(512, 1)), at(held(math.MaxInt, 1)), at(held(math.MinInt, 1)), at(held(math.MaxInt, 1), held(math.MinInt, 1)), at(held(1<<32, 1)),
		// No counts.
		at(held(0)), at(api.Held{P: 1, N: []int{}}), at(held(0, 1), held(1)), at(held(1), held(3, 4)), at(api.Held{}),
	}
	for _, counts := range [][]int{{0}, {-1}, {math.MinInt}, {math.MaxInt}, {4}, {3, 4}, {0, 1}, {-1, 2}, {2, 1}, {1, 1}, {3, 3}, {1, 3, 2}, {1, 2, 2}, {1, 2, 3, 4}, {1, 2, 3, 3}, {1 << 32}, {1<<32 + 1}, {math.MaxInt, math.MinInt}, {2, math.MinInt}} {
		l = append(l, at(held(1, counts...)), at(held(0, 1), held(1, counts...), held(3, 4)))
	}
	return append(l, at(held(0, 2)), at(held(0, 1, 2)), at(held(2, 4097)), at(held(2, upTo(4097)...)), at(held(3, 5)), at(held(3, 0, 4)))
}

// P10.1: the beginning.
func TestStart(t *testing.T) {
	if c := nca.Start(); !c.Begin || len(c.L) != 0 {
		t.Error(c)
	}
	for _, g := range []api.Glush{{}, good(), {First: []int{}, P: []api.Pos{}}} {
		if !nca.Right(g, nca.Start()) {
			t.Error("the beginning is not right with", g)
		}
	}
}

// P10.1: what is right, and what is not.
func TestRight(t *testing.T) {
	for _, c := range rightConfigs() {
		if !nca.Right(good(), c) || !rightByWords(good(), c) {
			t.Errorf("not right: %.300s", shown(c))
		}
		for i, g := range wrongPlaces() {
			if nca.Right(g, c) {
				t.Errorf("right with wrong places %d: %.300s", i, shown(c))
			}
		}
		c.Begin = true
		if nca.Right(good(), c) != (len(c.L) == 0) {
			t.Errorf("the beginning, and places: %.300s", shown(c))
		}
	}
	for _, c := range wrongConfigs() {
		if nca.Right(good(), c) || rightByWords(good(), c) {
			t.Errorf("right: %.300s", shown(c))
		}
	}
	for _, c := range []api.Config{at(held(0, 1)), at(held(0)), at(held(-1, 1)), {Begin: true, L: []api.Held{held(0, 1)}}} {
		if nca.Right(api.Glush{}, c) {
			t.Error("right without a place:", shown(c))
		}
	}
	if !nca.Right(api.Glush{}, api.Config{}) {
		t.Error("no places are not right where there are none")
	}
}

// P10.1: as many places as may be, each with all counts that may be.
func TestRightMany(t *testing.T) {
	var g api.Glush
	var c api.Config
	for i := range 512 {
		g.P = append(g.P, api.Pos{S: some(byte(i)), Lo: 1 + i%7, Hi: 7 + i, Rule: i})
		c.L = append(c.L, held(i, upTo(7+i)...))
	}
	if !nca.Right(g, c) {
		t.Error("not right")
	}
	for _, place := range []int{0, 1, 255, 256, 510, 511} {
		for _, spoil := range []func(h *api.Held){
			func(h *api.Held) { h.P++ }, func(h *api.Held) { h.P-- }, func(h *api.Held) { h.N = nil }, func(h *api.Held) { h.N = append(h.N, 8+place) }, func(h *api.Held) { h.N[0] = 0 }, func(h *api.Held) { h.N[3] = 5 },
		} {
			d := copiedConfig(c)
			spoil(&d.L[place])
			if nca.Right(g, d) || rightByWords(g, d) {
				t.Error("right, with a change at", place)
			}
		}
	}
}

// P10.2, P10.3: the chapter's example, field by field.
func TestExample(t *testing.T) {
	g := places(t, "a{2,3}")
	c := nca.Start()
	for i, want := range []struct {
		l    []api.Held
		rule int
	}{{[]api.Held{{P: 0, N: []int{1}}}, -1}, {[]api.Held{{P: 0, N: []int{2}}}, 0}, {[]api.Held{{P: 0, N: []int{3}}}, 0}, {nil, -1}, {nil, -1}} {
		c = nca.Step(g, c, 'a')
		if !same(c, api.Config{L: want.l}) || nca.Rule(g, c) != want.rule {
			t.Error("behind", i+1, shown(c), nca.Rule(g, c))
		}
	}
}

// P10.2, P10.3: where one is behind each byte, and by which rule it may end there, worked out by hand.
func TestWays(t *testing.T) {
	for _, x := range []struct{ patterns, text, want string }{
		// One byte; one that it is not; nothing.
		{"a", "ab", "0:1=0 ="}, {"a", "b", "="}, {"", "a", "="}, {"()*", "a", "="},
		// First is entered from the beginning alone.
		{"ab", "aab", "0:1= = ="}, {"ab", "abab", "0:1= 1:1=0 = ="}, {"a|b", "ab", "0:1=0 ="}, {"ab*", "abba", "0:1=0 1:1=0 1:1=0 ="},
		// Behind no places there are none.
		{"ab", "ba", "= ="}, {"(ab)*", "abbab", "0:1= 1:1=0 = = ="},
		// Counts below Lo, at Lo, at Hi.
		{"a{2,3}", "aaaaa", "0:1= 0:2=0 0:3=0 = ="}, {"a{3}", "aaaa", "0:1= 0:2= 0:3=0 ="}, {"a{1,2}", "aaa", "0:1=0 0:2=0 ="}, {"a{2,3}b", "abaab", "0:1= = = = ="}, {"a{2,3}b", "aabb", "0:1= 0:2= 1:1=0 ="}, {"a{2,3}b", "aaab", "0:1= 0:2= 0:3= 1:1=0"}, {"a{2,3}b", "aaaab", "0:1= 0:2= 0:3= = ="},
		{"[ab]{2,3}b", "abbb", "0:1= 0:2= 0:3 1:1=0 1:1=0"}, {"a{2,3}a", "aaaaa", "0:1= 0:2= 0:3 1:1=0 1:1=0 ="}, {"a{2}a{2}", "aaaaa", "0:1= 0:2= 1:1= 1:2=0 ="},
		// A place that is entered, and that stays, by the same byte.
		{"(a{1,2})*", "aaaa", "0:1=0 0:1,2=0 0:1,2=0 0:1,2=0"}, {"(a{2,3})*", "aaaaaa", "0:1= 0:2=0 0:1,3=0 0:1,2=0 0:1,2,3=0 0:1,2,3=0"}, {"(a{3})*", "aaaaaaa", "0:1= 0:2= 0:3=0 0:1= 0:2= 0:3=0 0:1="}, {"(a{2,3}b)*", "aabaaab", "0:1= 0:2= 1:1=0 0:1= 0:2= 0:3= 1:1=0"},
		{"[ab]*a[ab]{3,4}", "aabbbbb", "0:1 1:1= 0:1 1:1 2:1= 0:1 2:1,2= 0:1 2:2,3=0 0:1 2:3,4=0 0:1 2:4=0 0:1="}, {"a*a{2,9}", "aaaa", "0:1 1:1= 0:1 1:1,2=0 0:1 1:1,2,3=0 0:1 1:1,2,3,4=0"}, {"[ab]*a{2,3}", "aabaaaa", "0:1 1:1= 0:1 1:1,2=0 0:1= 0:1 1:1= 0:1 1:1,2=0 0:1 1:1,2,3=0 0:1 1:1,2,3=0"},
		{"(a{3,5}b|a)*", "aaab", "0:1 2:1=0 0:1,2 2:1=0 0:1,2,3 2:1=0 1:1=0"},
		// A place that is entered from several others.
		{"(a|b|[ab])*c", "aabc", "0:1 2:1= 0:1 2:1= 1:1 2:1= 3:1=0"}, {"(a|[ab]|[ac])b{2,4}", "abbbbb", "0:1 1:1 2:1= 3:1= 3:2=0 3:3=0 3:4=0 ="}, {"(a*b*)*", "abba", "0:1=0 1:1=0 1:1=0 0:1=0"},
		// Those behind a place whose counts are all below its Lo are not entered.
		{"(a{2,3}|b)c", "acabc", "0:1= = = = ="}, {"a{3}[ab]", "aab", "0:1= 0:2= ="}, {"(a{2,9}b*)*", "aabab", "0:1= 0:2=0 1:1=0 0:1= ="},
		// Several rules at once: the least is told.
		{"if [a-z][a-z]*", "iff", "0:1 2:1=1 1:1 3:1=0 3:1=1"}, {"[a-z][a-z]* if", "iff", "0:1 2:1=0 1:1 3:1=0 1:1=0"}, {"a a a", "a", "0:1 1:1 2:1=0"}, {"b a a", "a", "1:1 2:1=1"}, {"a{3} a{2} a", "aaaa", "0:1 1:1 2:1=2 0:2 1:2=1 0:3=0 ="}, {"a{3,4} a{2,5} a*", "aaaaaa", "0:1 1:1 2:1=2 0:2 1:2 2:1=1 0:3 1:3 2:1=0 0:4 1:4 2:1=0 1:5 2:1=1 2:1=2"},
		{"ab a*", "aab", "0:1 2:1=1 2:1=1 ="}, {" a", "a", "0:1=1"}, {"a b", "ba", "1:1=1 ="},
	} {
		g := places(t, strings.Split(x.patterns, " ")...)
		c := nca.Start()
		var all []string
		for _, b := range []byte(x.text) {
			c = nca.Step(g, c, b)
			rule := ""
			if r := nca.Rule(g, c); r != -1 {
				rule = strconv.Itoa(r)
			}
			all = append(all, shown(c)+"="+rule)
		}
		if got := strings.Join(all, " "); got != x.want {
			t.Errorf("%q in %q: %s; it must be %s", x.patterns, x.text, got, x.want)
		}
		walk(t, g, x.text)
	}
}

// P10.2: single steps of good places, which are those of no plan, worked out by hand.
func TestStep(t *testing.T) {
	for _, x := range []struct {
		c    api.Config
		b    byte
		want string
	}{
		{nca.Start(), 'a', "0:1 2:1"}, {nca.Start(), 'b', "0:1"}, {nca.Start(), 0, "2:1"}, {nca.Start(), 255, "2:1"}, {nca.Start(), 'c', ""}, {nca.Start(), 1, ""}, {nca.Start(), 254, ""},
		{api.Config{}, 'a', ""}, {api.Config{}, 'b', ""},
		{at(held(0, 1)), 'a', "0:1 1:1"}, {at(held(0, 1)), 'b', "0:1 3:1"}, {at(held(0, 1)), 0, ""},
		{at(held(1, 1)), 'a', "1:2"}, {at(held(1, 1)), 'b', ""}, {at(held(1, 2)), 'a', "1:1,3"}, {at(held(1, 2)), 'b', "3:1"}, {at(held(1, 3)), 'a', "1:1"}, {at(held(1, 3)), 'b', "3:1"}, {at(held(1, 1, 2)), 'a', "1:1,2,3"}, {at(held(1, 1, 3)), 'a', "1:1,2"}, {at(held(1, 1, 2, 3)), 'a', "1:1,2,3"}, {at(held(1, 1, 2, 3)), 'c', ""},
		{at(held(2, 4094)), 'a', "2:4095"}, {at(held(2, 4095)), 255, "2:4096"}, {at(held(2, 4096)), 0, "2:1"}, {at(held(2, 1, 4095, 4096)), 'a', "2:1,2,4096"}, {at(held(2, 7)), 'b', ""},
		{at(held(3, 1)), 'b', "0:1 3:1,2"}, {at(held(3, 4)), 'b', "0:1 3:1"}, {at(held(3, 2, 4)), 'b', "0:1 3:1,3"}, {at(held(3, 1, 2, 3, 4)), 'b', "0:1 3:1,2,3,4"}, {at(held(3, 1, 2, 3, 4)), 'a', "0:1"},
		{at(held(0, 1), held(1, 1)), 'a', "0:1 1:1,2"}, {at(held(0, 1), held(1, 2, 3)), 'a', "0:1 1:1,3"}, {at(held(0, 1), held(1, 2), held(3, 4)), 'b', "0:1 3:1"}, {at(held(0, 1), held(1, 3), held(2, 4096), held(3, 1, 3)), 'a', "0:1 1:1 2:1"}, {at(held(0, 1), held(1, 3), held(2, 4096), held(3, 1, 3)), 'b', "0:1 3:1,2,4"},
	} {
		if c := nca.Step(good(), x.c, x.b); shown(c) != x.want {
			t.Errorf("%s by %d: %s; it must be %s", shown(x.c), x.b, shown(c), x.want)
		}
	}
	all := nca.Step(good(), at(held(2, upTo(4096)...)), 'a')
	if !same(all, at(held(2, upTo(4096)...))) {
		t.Errorf("all counts: %.300s", shown(all))
	}
	for _, c := range rightConfigs() {
		hold(t, good(), c, "ab\x00\xffc")
	}
}

// P10.2: each byte, by a place of its own.
func TestStepByEachByte(t *testing.T) {
	var g api.Glush
	for i := range 256 {
		g.P = append(g.P, api.Pos{S: some(byte(i)), Lo: 2, Hi: 3, Next: []int{i}})
		g.First = append(g.First, i)
	}
	for i := range 256 {
		c := nca.Step(g, nca.Start(), byte(i))
		for k, want := range []api.Config{at(held(i, 1)), at(held(i, 2)), at(held(i, 1, 3)), at(held(i, 1, 2))} {
			if !same(c, want) {
				t.Error(i, k, shown(c))
			}
			if other := nca.Step(g, c, byte(i+1)); !same(other, api.Config{}) {
				t.Error("by another byte:", i, shown(other))
			}
			c = nca.Step(g, c, byte(i))
		}
	}
}

// P10.2, P10.3: what is not right has neither a way on nor a rule.
func TestWrong(t *testing.T) {
	configs := slices.Concat(rightConfigs(), wrongConfigs())
	for k, g := range append(wrongPlaces(), good()) {
		if k == len(wrongPlaces()) {
			configs = wrongConfigs()
		}
		for _, c := range configs {
			for _, b := range []byte("ab\x00\xff") {
				if there := nca.Step(g, c, b); there.Begin || len(there.L) > 0 {
					t.Errorf("%d: a step from %.300s: %.300s", k, shown(c), shown(there))
				}
			}
			if r := nca.Rule(g, c); r != -1 {
				t.Errorf("%d: a rule of %.300s: %d", k, shown(c), r)
			}
		}
		if k == len(wrongPlaces()) {
			break
		}
		for _, w := range []string{"", "a", "ab", "aaaa"} {
			for from := -1; from <= len(w)+1; from++ {
				if to, rule, ok := nca.Longest(g, w, from); to != 0 || rule != 0 || ok {
					t.Error(k, w, from, to, rule, ok)
				}
			}
		}
	}
}

// P10.3: rules of good places, worked out by hand.
func TestRule(t *testing.T) {
	for _, x := range []struct {
		c    api.Config
		want int
	}{
		{nca.Start(), -1}, {api.Config{}, -1},
		{at(held(0, 1)), 4}, {at(held(1, 1)), -1}, {at(held(1, 2)), 2}, {at(held(1, 3)), 2}, {at(held(1, 1, 2)), 2}, {at(held(1, 1, 3)), 2}, {at(held(2, 1)), -1}, {at(held(2, 4095)), -1}, {at(held(2, 4096)), 511}, {at(held(2, upTo(4095)...)), -1}, {at(held(2, upTo(4096)...)), 511}, {at(held(3, 1, 2, 3, 4)), -1},
		{at(held(0, 1), held(1, 1)), 4}, {at(held(0, 1), held(1, 2)), 2}, {at(held(0, 1), held(1, 1, 3)), 2}, {at(held(0, 1), held(2, 4096)), 4}, {at(held(1, 1), held(2, 4096)), 511}, {at(held(1, 1), held(2, 4096), held(3, 1)), 511}, {at(held(1, 2), held(2, 4096), held(3, 1)), 2}, {at(held(0, 1), held(1, 2), held(2, 4096), held(3, 1)), 2}, {at(held(1, 1), held(2, 1), held(3, 1)), -1},
	} {
		if r := nca.Rule(good(), x.c); r != x.want {
			t.Errorf("%.300s: %d; it must be %d", shown(x.c), r, x.want)
		}
	}
	for _, rules := range [][]int{{0}, {511}, {0, 0}, {0, 511}, {511, 0}, {3, 1, 2}, {1, 2, 3}, {3, 2, 1}, {7, 7, 7}} {
		var g api.Glush
		var c api.Config
		for i, r := range rules {
			g.P = append(g.P, api.Pos{S: some('a'), Lo: 1, Hi: 1, Rule: r, Last: true})
			c.L = append(c.L, held(i, 1))
		}
		if r := nca.Rule(g, c); r != slices.Min(rules) {
			t.Error(rules, r)
		}
		for i := range rules {
			g.P[i].Last = false
		}
		if r := nca.Rule(g, c); r != -1 {
			t.Error("none is last:", rules, r)
		}
	}
}

// P10.3: how far one comes, worked out by hand.
func TestLongest(t *testing.T) {
	for _, x := range []struct {
		patterns, w string
		from        int
		to, rule    int // 0, -1: none
	}{
		{"if [a-z]+", "if x", 0, 2, 0}, {"if [a-z]+", "iffy", 0, 4, 1}, {"if [a-z]+", "if x", 1, 2, 1}, {"if [a-z]+", "if x", 2, 0, -1}, {"if [a-z]+", "if x", 3, 4, 1}, {"if [a-z]+", "if x", 4, 0, -1}, {"if [a-z]+", "if x", 5, 0, -1}, {"if [a-z]+", "if x", -1, 0, -1}, {"if [a-z]+", "if x", math.MaxInt, 0, -1}, {"if [a-z]+", "if x", math.MinInt, 0, -1},
		// A text of no bytes.
		{"a", "", 0, 0, -1}, {"a*", "", 0, 0, -1}, {"", "", 0, 0, -1}, {"a*", "", 1, 0, -1}, {"a*", "", -1, 0, -1},
		// None at all; nothing is no way on.
		{"a", "b", 0, 0, -1}, {"a*", "b", 0, 0, -1}, {"", "a", 0, 0, -1}, {"ab", "aab", 0, 0, -1}, {"ab", "aab", 1, 3, 0}, {"a{3,5}", "aab", 0, 0, -1}, {"a*", "aab", 2, 0, -1}, {"a*", "aab", 3, 0, -1},
		// From within, and up to the end.
		{"a{3,5}", "aaaaaaa", 0, 5, 0}, {"a{3,5}", "aaaaaaa", 1, 6, 0}, {"a{3,5}", "aaaaaaa", 4, 7, 0}, {"a{3,5}", "aaaaaaa", 5, 0, -1}, {"a{3,5}", "aaaaaaa", 7, 0, -1}, {"a*", "baaab", 1, 4, 0}, {"a", "ba", 1, 2, 0}, {"a", "ab", 0, 1, 0},
		// One rule ends earlier, another one later; one may end, goes on, and ends no more.
		{"a ab", "ab", 0, 2, 1}, {"ab a", "ab", 0, 2, 0}, {"ab a", "ac", 0, 1, 1}, {"a abcd", "abcx", 0, 1, 0}, {"a abcd", "abc", 0, 1, 0}, {"a abcd", "abcd", 0, 4, 1}, {"a|abc abcde", "abcdx", 0, 3, 0}, {"a*b a*", "aaaa", 0, 4, 1}, {"a*b a*", "aaab", 0, 4, 0}, {"a*b a*", "aaac", 0, 3, 1}, {"a{2} a{4}", "aaaaa", 0, 4, 1}, {"a{4} a{2}", "aaa", 0, 2, 1}, {"(ab)* a(ba)*", "ababa", 0, 5, 1}, {"(ab)* a(ba)*", "abab", 0, 4, 0},
		// Several rules at the last place.
		{"[ab]* a*", "aaa", 0, 3, 0}, {"a* [ab]*", "aab", 0, 3, 1}, {"b a{1,3} [a-c]{2,4}", "aaaa", 0, 4, 2}, {"b a{1,3} [a-c]{2,4}", "aaa", 0, 3, 1}, {"b a a", "a", 0, 1, 1},
		{"(a{3,5}b)*", "aaabaaaabab", 0, 9, 0}, {"(a{3})*", "aaaaaaa", 0, 6, 0}, {"[ab]*a[ab]{3,4}", "abbbb", 0, 5, 0}, {"[ab]*a[ab]{3,4}", "abbbbb", 0, 5, 0}, {"[ab]*a[ab]{3,4}", "abbbbb", 1, 0, -1}, {"\\x00\\xff", "\x00\xff\x00", 0, 2, 0},
	} {
		g := places(t, strings.Split(x.patterns, " ")...)
		want := x.rule != -1
		to, rule, ok := nca.Longest(g, x.w, x.from)
		if ok != want || to != x.to || rule != max(x.rule, 0) {
			t.Errorf("%q in %q from %d: %d, %d, %t", x.patterns, x.w, x.from, to, rule, ok)
		}
	}
	if to, rule, ok := nca.Longest(api.Glush{}, "a", 0); to != 0 || rule != 0 || ok {
		t.Error("without a place:", to, rule, ok)
	}
}

// P10.4: what is told of patterns, however they are counted, and what they mean.
func TestMeans(t *testing.T) {
	for _, x := range [][]string{
		{"if", "[a-z]+"}, {"a{2,3}"}, {"a?", "a*", "a"}, {"", "a{0,1}|b", "ab"}, {"(a{2,9}|b)*a"}, {"[ab]*a[ab]{3,4}", "(a|b){2,5}"}, {"(ab){2,3}", "(a|bb){2,4}", "b{3,}"}, {"(a{0,3}b?){2}", "a{4,}"}, {"((a{2,3}){2,3}b)+", "(a+b)+"}, {"(a{2}|a{3}b)*", "a{5}", "b{1,3}a?"},
	} {
		trees := parsed(t, x...)
		ends := 0
		for most := 1; most <= 5; most++ {
			g, ok := placed(t, trees, most)
			if !ok {
				t.Fatalf("%q with %d: too long", x, most)
			}
			for _, w := range []string{"", "a", "b", "aaaaaaaaaaaa", "bbbbbbbbb", "abababababab", "aabaaabaaaab", "bbabbbabbbba", "ifa", "cab"} {
				ends += means(t, g, trees, w)
				walk(t, g, w)
			}
		}
		if ends < 20 {
			t.Errorf("%q: ends: %d", x, ends)
		}
	}
}

// P10.4: bounds as great as may be.
func TestGreatBounds(t *testing.T) {
	w := strings.Repeat("a", 4100)
	for _, x := range []struct {
		pattern  string
		to, rule int
	}{{"a{4096}", 4096, 0}, {"a{4095,4096}", 4096, 0}, {"a{2,4096}", 4096, 0}, {"a{4096}b", 0, -1}, {"a{4000}a{100}", 4100, 0}, {"a{4000}a{101}", 0, -1}, {"a{4000}a{50,99}", 4099, 0}} {
		to, rule, ok := nca.Longest(places(t, x.pattern), w, 0)
		if to != x.to || rule != max(x.rule, 0) || ok != (x.rule == 0) {
			t.Error(x.pattern, to, rule, ok)
		}
	}
	if to, _, ok := nca.Longest(places(t, "a*a{4096}"), w+"b"+w[:7], 0); to != 4100 || !ok {
		t.Error("many counts at once:", to, ok)
	}
}

// DOC.md, Rules 1: as many places as may be, all of which may follow all, with as many counts as a text gives, come to an end while one may wait.
func TestDeep(t *testing.T) {
	var g api.Glush
	all := append([]int{0}, upTo(511)...)
	for i := range 512 {
		g.P = append(g.P, api.Pos{S: some('a', byte(i)), Lo: 1, Hi: 4096, Rule: 511 - i, Last: i%2 == 0, Next: all})
	}
	g.First = all
	to, rule, ok := nca.Longest(g, strings.Repeat("a", 100)+"b", 0)
	if to != 101 || rule != 511-256-'b' || !ok {
		t.Error(to, rule, ok)
	}
	c := nca.Start()
	for range 100 {
		c = nca.Step(g, c, 'a')
	}
	if len(c.L) != 512 || !slices.Equal(c.L[511].N, upTo(100)) {
		t.Error(len(c.L))
	}
	long := strings.Repeat("ab", 1<<17)
	if to, _, ok := nca.Longest(places(t, "(ab)*", "[ab]{2,9}"), long, 1); to != 10 || !ok {
		t.Error("a long text:", to, ok)
	}
	if to, _, ok := nca.Longest(places(t, "(ab)*", "[ab]{2,9}"), long, 0); to != 1<<18 || !ok {
		t.Error("a long text:", to, ok)
	}
}
