package auto_test

import (
	"math"
	"slices"
	"strings"
	"testing"

	"raddle/api"
	"raddle/auto"
	"raddle/split"
)

// The calls are those of the chapter.
var (
	_ func(api.Glush) (api.Auto, api.Errno) = auto.Of
	_ func(api.Auto) bool                   = auto.Right
	_ func(int) int                         = auto.Codes
)

// goodPlaces is places of all kinds that are right.
func goodPlaces() api.Glush {
	return api.Glush{First: []int{0, 2}, P: []api.Pos{
		{S: some('a', 'b'), Lo: 1, Hi: 1, Rule: 4, Last: true, Next: []int{0, 1, 3}},
		{S: some('a'), Lo: 2, Hi: 3, Rule: 2, Last: true, Next: []int{1, 3}},
		{S: some('a', 0, 255), Lo: 4096, Hi: 4096, Rule: 511, Last: true, Next: []int{2}},
		{S: some('a', 'b'), Lo: 1, Hi: 4, Rule: 3, Next: []int{0, 3}},
	}}
}

// wrongPlaces are places that are not right, each a bit off good ones.
func wrongPlaces() []api.Glush {
	var l []api.Glush
	for _, spoil := range []func(g *api.Glush){
		func(g *api.Glush) { g.First = []int{2, 0} },
		func(g *api.Glush) { g.First = []int{0, 0} },
		func(g *api.Glush) { g.First = []int{0, 4} },
		func(g *api.Glush) { g.First = []int{-1, 0} },
		func(g *api.Glush) { g.First = []int{math.MaxInt} },
		func(g *api.Glush) { g.P[0].S = api.Set{} },
		func(g *api.Glush) { g.P[3].S = api.Set{} },
		func(g *api.Glush) { g.P[0].Lo = 0 },
		func(g *api.Glush) { g.P[1].Lo = 4 },
		func(g *api.Glush) { g.P[3].Lo = -1 },
		func(g *api.Glush) { g.P[2].Hi = 4097 },
		func(g *api.Glush) { g.P[1].Hi = math.MaxInt },
		func(g *api.Glush) { g.P[1].Rule = -1 },
		func(g *api.Glush) { g.P[3].Rule = 512 },
		func(g *api.Glush) { g.P[0].Next = []int{1, 0} },
		func(g *api.Glush) { g.P[0].Next = []int{1, 1} },
		func(g *api.Glush) { g.P[1].Next = []int{4} },
		func(g *api.Glush) { g.P[3].Next = []int{-1} },
		func(g *api.Glush) { g.P[2].Next = []int{math.MinInt} },
		func(g *api.Glush) { g.P = append(g.P, slices.Repeat(g.P[3:], 509)...) },
		func(g *api.Glush) { g.P = nil },
	} {
		g := goodPlaces()
		spoil(&g)
		l = append(l, g)
	}
	return l
}

// P11.1: how many codes there are.
func TestCodes(t *testing.T) {
	for many, want := range map[int]int{0: 1, 1: 3, 2: 9, 3: 27, 4: 0, 5: 0, 40: 0, -1: 0, -2: 0, math.MaxInt: 0, math.MinInt: 0, 1 << 32: 0, 1<<32 + 1: 0} {
		if n := auto.Codes(many); n != want {
			t.Errorf("%d: %d; it must be %d", many, n, want)
		}
	}
}

// none is Moves that go nowhere, of three classes.
func none() []api.Move { return []api.Move{{To: -1}, {To: -1}, {To: -1}} }

// to is a Move.
func to(state int, ops ...uint8) api.Move { return api.Move{To: state, Ops: ops} }

// good is an automaton that is right, with states of no counts, of one and of three, and Moves of all kinds.
func good() api.Auto {
	a := api.Auto{
		Split:  split.Of(some('a'), some('b')),
		Counts: [][2]int{{1, 2}, {2, 2}, {4096, 4096}, {1, 4096}},
		States: []api.State{{}, {L: []int{0}, R: []int{1}}, {L: []int{3, 100, 511}, R: []int{0, 2, 3}}, {L: []int{1, 2}}, {}},
	}
	for i := range a.States {
		s := &a.States[i]
		for code := range []int{1, 3, 9, 27}[len(s.R)] {
			s.Rule = append(s.Rule, 20*code-1)
			s.Next = append(s.Next, none())
		}
	}
	a.States[0].Next[0] = []api.Move{to(3), to(1, api.Set1), to(2, api.Set1, api.Set1, api.Set1)}
	a.States[1].Next[0] = []api.Move{to(1, api.Inc), to(1, api.Both), to(1, api.Set1)}
	a.States[1].Next[2] = []api.Move{to(2, api.Set1, api.Set1, api.Set1), to(3), to(4)}
	a.States[2].Rule[26] = 511
	a.States[2].Next[26] = []api.Move{to(2, api.Inc, api.Both, api.Set1), to(2, api.Both, api.Set1, api.Inc), to(1, api.Set1)}
	a.States[4].Next[0] = []api.Move{to(4), to(-1), to(1, api.Set1)}
	return a
}

// rightAutos are automata that are right.
func rightAutos() []api.Auto {
	l := []api.Auto{good(), {Split: split.Of(), States: []api.State{{Rule: []int{-1}, Next: [][]api.Move{{{To: -1}}}}}}}
	for _, change := range []func(a *api.Auto){
		// Other bytes are dealt to as many classes.
		func(a *api.Auto) { a.Split = split.Of(some(0), some(255)) },
		func(a *api.Auto) { a.Counts[0] = [2]int{2, 2} },
		func(a *api.Auto) { a.Counts[1] = [2]int{1, 4096} },
		func(a *api.Auto) { a.Counts = append(a.Counts, slices.Repeat([][2]int{{1, 2}}, 508)...) },
		func(a *api.Auto) { a.States = append(a.States, slices.Repeat(a.States[4:], 251)...) },
		func(a *api.Auto) {
			a.States = append(a.States, slices.Repeat(a.States[4:], 251)...)
			a.States[0].Next[0][0] = to(255)
		},
		func(a *api.Auto) { a.States[1].L = nil },
		func(a *api.Auto) { a.States[1].L = upTo(512) },
		func(a *api.Auto) { a.States[3].L = []int{511} },
		func(a *api.Auto) { a.States[2].R = []int{0, 1, 3}; a.States[1].R = []int{3} },
		func(a *api.Auto) { a.States[0].Rule[0] = 511 },
		func(a *api.Auto) { a.States[0].Rule[0] = 0 },
		func(a *api.Auto) { a.States[2].Rule[13] = -1 },
		func(a *api.Auto) { a.States[4].Next[0] = none() },
		func(a *api.Auto) { a.States[0].Next[0] = none() },
	} {
		a := good()
		change(&a)
		l = append(l, a)
	}
	return l
}

// upTo is the numbers below one.
func upTo(n int) []int {
	var l []int
	for i := range n {
		l = append(l, i)
	}
	return l
}

// wrongAutos are automata that are not right, each a bit off a good one.
func wrongAutos() []api.Auto {
	var l []api.Auto
	for _, spoil := range slices.Concat(wrongShapes(), wrongStates(), wrongMoves()) {
		a := good()
		spoil(&a)
		l = append(l, a)
	}
	return l
}

// wrongShapes spoil a Split, Counts, or how many states there are.
func wrongShapes() []func(a *api.Auto) {
	l := []func(a *api.Auto){
		func(a *api.Auto) { a.Split = api.Split{} },
		func(a *api.Auto) { a.Split.Many = 2 },
		func(a *api.Auto) { a.Split.Many = 4 },
		func(a *api.Auto) { a.Split.Many = -1 },
		func(a *api.Auto) { a.Split.Many = math.MaxInt },
		func(a *api.Auto) { a.Split.Of[0] = 1 },
		func(a *api.Auto) { a.Split.Of[255] = 3 },
		func(a *api.Auto) { a.Split.Of['a'], a.Split.Of['b'] = 2, 1 },
		func(a *api.Auto) { a.Split = split.Of(some('a')) },
		func(a *api.Auto) { a.Split = split.Of(some('a'), some('b'), some('c')) },
		func(a *api.Auto) { a.Counts = append(a.Counts, slices.Repeat([][2]int{{1, 2}}, 509)...) },
		func(a *api.Auto) { a.Counts = a.Counts[:3] },
		func(a *api.Auto) { a.Counts = nil },
		func(a *api.Auto) { a.States = nil },
		func(a *api.Auto) { a.States = append(a.States, slices.Repeat(a.States[4:], 252)...) },
		func(a *api.Auto) { a.States = a.States[:4] },
		func(a *api.Auto) { a.States = a.States[:1] },
	}
	for _, bounds := range [][2]int{{0, 2}, {-1, 2}, {math.MinInt, 2}, {3, 2}, {1, 1}, {0, 1}, {0, 0}, {1, 0}, {2, 1}, {-2, -2}, {1, -1}, {1, 4097}, {4097, 4097}, {1, math.MaxInt}, {math.MaxInt, math.MaxInt}, {math.MaxInt, 2}, {1, 1<<32 + 2}} {
		for i := range 4 {
			l = append(l, func(a *api.Auto) { a.Counts[i] = bounds })
		}
		l = append(l, func(a *api.Auto) { a.Counts = append(a.Counts, bounds) })
	}
	return l
}

// wrongStates spoil a state's lists, or its Rules.
func wrongStates() []func(a *api.Auto) {
	l := []func(a *api.Auto){
		// The first one with places, or with counts.
		func(a *api.Auto) { a.States[0].L = []int{0} },
		func(a *api.Auto) { a.States[0].L = []int{511} },
		func(a *api.Auto) { a.States[0] = a.States[1] },
		func(a *api.Auto) { a.States[0] = a.States[2] },
		func(a *api.Auto) { a.States[0] = a.States[3] },
		func(a *api.Auto) { a.States[0] = a.States[1]; a.States[0].L = nil },
		func(a *api.Auto) { a.States[0].R = []int{0} },
		// More counts than a state may have, with as many codes as they would have.
		func(a *api.Auto) {
			s := &a.States[2]
			s.R = upTo(4)
			s.Rule, s.Next = slices.Repeat(s.Rule, 3), slices.Repeat(s.Next, 3)
			a.States[0].Next[0][2], a.States[1].Next[2][0], s.Next[26] = to(-1), to(-1), none()
			s.Next[53], s.Next[80] = none(), none()
		},
		func(a *api.Auto) { a.States[2].R = upTo(4) },
		// And without a code, as Codes would have it.
		func(a *api.Auto) { a.States = append(a.States, api.State{R: upTo(4)}) },
		func(a *api.Auto) { a.States = append(a.States, api.State{L: []int{0, 1, 2, 3}, R: upTo(4)}) },
		func(a *api.Auto) { a.States[2].R = []int{0, 2} },
		func(a *api.Auto) { a.States[1].R = nil },
	}
	for _, places := range [][]int{{-1}, {512}, {math.MinInt}, {math.MaxInt}, {1 << 32}, {1, 0}, {0, 0}, {511, 511}, {0, 512}, {-1, 0}, {0, 1, 1}, {0, 2, 1}, {3, 4, 0}, {math.MaxInt, math.MinInt}, upTo(513)} {
		for i := range 5 {
			l = append(l, func(a *api.Auto) { a.States[i].L = places })
		}
	}
	for _, counts := range [][]int{{-1}, {4}, {math.MinInt}, {math.MaxInt}, {1 << 32}, {512}} {
		l = append(l, func(a *api.Auto) { a.States[1].R = counts })
	}
	for _, counts := range [][]int{{2, 0, 3}, {0, 3, 2}, {0, 0, 3}, {0, 3, 3}, {-1, 0, 2}, {0, 2, 4}, {0, 2, math.MaxInt}, {3, 2, 0}} {
		l = append(l, func(a *api.Auto) { a.States[2].R = counts })
	}
	for i, codes := range []int{1, 3, 27, 1, 1} {
		l = append(l,
			func(a *api.Auto) { a.States[i].Rule = append(a.States[i].Rule, 0) }, func(a *api.Auto) { a.States[i].Rule = a.States[i].Rule[1:] }, func(a *api.Auto) { a.States[i].Rule = nil },
			func(a *api.Auto) { a.States[i].Next = append(a.States[i].Next, none()) }, func(a *api.Auto) { a.States[i].Next = a.States[i].Next[1:] }, func(a *api.Auto) { a.States[i].Next = nil },
			func(a *api.Auto) {
				a.States[i].Rule, a.States[i].Next = append(a.States[i].Rule, 0), append(a.States[i].Next, none())
			},
			func(a *api.Auto) { a.States[i].Rule, a.States[i].Next = a.States[i].Rule[1:], a.States[i].Next[1:] })
		for _, rule := range []int{-2, 512, math.MinInt, math.MaxInt, 1 << 32} {
			for _, code := range []int{0, codes / 2, codes - 1} {
				l = append(l, func(a *api.Auto) { a.States[i].Rule[code] = rule })
			}
		}
	}
	return l
}

// wrongMoves spoil a Move, or how many there are.
func wrongMoves() []func(a *api.Auto) {
	var l []func(a *api.Auto)
	for i, codes := range []int{1, 3, 27, 1, 1} {
		for _, code := range []int{0, codes - 1} {
			for _, moves := range [][]api.Move{nil, {}, none()[:1], none()[:2], append(none(), to(-1)), append(none(), none()...)} {
				l = append(l, func(a *api.Auto) { a.States[i].Next[code] = moves })
			}
			for class := range 3 {
				for _, m := range []api.Move{
					// No state, with Ops; states that there are not, or the first one.
					to(-1, api.Set1), to(-1, 0), to(-1, api.Set1, api.Set1, api.Set1), to(-2), to(0), to(5), to(256), to(math.MaxInt), to(math.MinInt), to(1 << 32), to(1<<32 + 3), {},
					to(-2, api.Set1), to(0, api.Set1), to(5, api.Set1),
					// Ops of a wrong number.
					to(1), to(1, api.Set1, api.Set1), to(1, api.Set1, api.Set1, api.Set1), to(2), to(2, api.Set1), to(2, api.Set1, api.Set1), to(2, api.Set1, api.Set1, api.Set1, api.Set1), to(3, api.Set1), to(4, 0), to(4, api.Set1),
					// Ops that there are not.
					to(1, 0), to(1, 4), to(1, 255), to(2, 0, api.Set1, api.Set1), to(2, api.Set1, 4, api.Set1), to(2, api.Set1, api.Set1, 128),
				} {
					l = append(l, func(a *api.Auto) { a.States[i].Next[code][class] = m })
				}
			}
		}
	}
	// What goes on of a count that the state has not.
	for _, op := range []uint8{api.Inc, api.Both} {
		for _, x := range []struct {
			from, code int
			m          api.Move
		}{
			{0, 0, to(1, op)}, {3, 0, to(1, op)}, {4, 0, to(1, op)}, {2, 0, to(1, op)}, {2, 26, to(1, op)},
			{0, 0, to(2, op, api.Set1, api.Set1)}, {1, 1, to(2, op, api.Set1, api.Set1)}, {1, 1, to(2, api.Set1, op, api.Set1)}, {1, 2, to(2, api.Set1, api.Set1, op)}, {1, 0, to(2, op, op, op)}, {3, 0, to(2, api.Set1, api.Set1, op)}, {4, 0, to(2, api.Set1, op, api.Set1)},
		} {
			l = append(l, func(a *api.Auto) { a.States[x.from].Next[x.code][1] = x.m })
		}
	}
	return l
}

// P11.1: what is right, and what is not.
func TestRight(t *testing.T) {
	for i, a := range rightAutos() {
		if !auto.Right(a) || !rightByWords(a) {
			t.Errorf("%d is not right: %.300s", i, shownWhole(a))
		}
	}
	for i, a := range wrongAutos() {
		if auto.Right(a) || rightByWords(a) {
			t.Errorf("%d is right: %.300s", i, shownWhole(a))
		}
	}
	if auto.Right(api.Auto{}) {
		t.Error("nothing is right")
	}
}

// P11.1: each Op of each count, from each state to each one.
func TestOps(t *testing.T) {
	right := 0
	for from := range 5 {
		for state := -2; state < 6; state++ {
			for many := range 5 {
				for row := range 625 {
					ops := []uint8{uint8(row % 5), uint8(row / 5 % 5), uint8(row / 25 % 5), uint8(row / 125)}[:many]
					a := good()
					a.States[from].Next[0][1] = to(state, ops...)
					if auto.Right(a) != rightByWords(a) {
						t.Fatal("from", from, "to", state, ops, "right must be", rightByWords(a))
					}
					if auto.Right(a) {
						right++
					}
					if many == 0 {
						break
					}
				}
			}
		}
	}
	if right < 1000 {
		t.Error("right:", right)
	}
}

// shownWhole is an automaton as a text, whether it is right or not.
func shownWhole(a api.Auto) string {
	var all []string
	for _, s := range a.States {
		all = append(all, numbers(s.L)+"/"+numbers(s.R)+": "+numbers(s.Rule))
	}
	return strings.Join(all, "; ")
}

// P11.2: the chapter's example, field by field.
func TestExample(t *testing.T) {
	a, e := auto.Of(places(t, "a{2,3}"))
	if e != api.OK || a.Split != split.Of(some('a')) || !slices.Equal(a.Counts, [][2]int{{2, 3}}) || len(a.States) != 2 {
		t.Fatal(e, a.Counts, shown(a))
	}
	first, second := a.States[0], a.States[1]
	if len(first.L) != 0 || len(first.R) != 0 || !slices.Equal(first.Rule, []int{-1}) || len(first.Next) != 1 || !sameMoves(first.Next[0], []api.Move{to(-1), to(1, api.Set1)}) {
		t.Error("the first state:", shownState(first))
	}
	if !slices.Equal(second.L, []int{0}) || !slices.Equal(second.R, []int{0}) || !slices.Equal(second.Rule, []int{-1, 0, 0}) || len(second.Next) != 3 {
		t.Fatal("the second state:", shownState(second))
	}
	back, nowhere := []api.Move{to(-1), to(1, api.Inc)}, []api.Move{to(-1), to(-1)}
	for code, want := range [][]api.Move{back, nowhere, back} {
		if !sameMoves(second.Next[code], want) {
			t.Error("code", code, second.Next[code])
		}
	}
}

// P11.2: the states of patterns, worked out by hand.
func TestStates(t *testing.T) {
	for _, x := range []struct{ patterns, want string }{
		// No places at all; none that is counted.
		{"", ": - -"}, {"()*", ": - -"}, {"a", ": - - 1; 0: 0 - -"}, {"\\x00", ": - 1 -; 0: 0 - -"}, {"[\\x00-\\xff]", ": - 1; 0: 0 -"}, {"[\\x00-\\xff]*", ": - 1; 0: 0 1"},
		{"ab*", ": - - 1 -; 0: 0 - - 2; 1: 0 - - 2"}, {"(ab)*", ": - - 1 -; 0: - - - 2; 1: 0 - 1 -"}, {"b|a", ": - - 1 2; 1: 0 - - -; 0: 0 - - -"},
		// A place with counts: below Lo, at Hi, between; and where Lo is 1, or is Hi, all codes all the same.
		{"a{2,3}", ": - - 1=; 0/0: - - 1+ | 0 - - | 0 - 1+"}, {"a{1,2}", ": - - 1=; 0/0: - - 1+ | 0 - - | 0 - 1+"}, {"a{4096}", ": - - 1=; 0/0: - - 1+ | 0 - - | 0 - 1+"},
		// A place that stays and is entered, by itself, or by another one.
		{"(a{2,3})*", ": - - 1=; 0/0: - - 1+ | 0 - 1= | 0 - 1*"}, {"(a{3,5}b|a)*", ": - - 1= -; 0,2/0: 0 - 1* - | 0 - 1= 2 | 0 - 1* 2; 1: 0 - 1= -"},
		// Those behind a place that is ripe; of a code that cannot be come states too.
		{"a{2,3}b", ": - - 1= -; 0/0: - - 1+ - | - - - 2 | - - 1+ 2; 1: 0 - - -"}, {"a{2}a", ": - - 1=; 0/0: - - 1+ | - - 2 | - - 3+; 1: 0 - -; 0,1/0: 0 - 1+ | 0 - 2 | 0 - 3+"},
		// Not all states have the count.
		{"[ab]*a[ab]{3,4}", ": - - 1 2; 0,1: - - 3= 4=; 0: - - 1 2; 0,1,2/0: - - 3* 4* | 0 - 3= 4= | 0 - 3* 4*; 0,2/0: - - 3+ 4+ | 0 - 1 2 | 0 - 3+ 4+"},
		// Two counts, and codes of two digits: the first one's digit counts for 1, the next one's for 3.
		{"a{2,3} [ab]{2,4}", ": - - 1== 2=; 0,1/0,1: - - 1++ 2+ | 0 - 2+ 2+ | 0 - 1++ 2+ | 1 - 3+ - | 0 - - - | 0 - 3+ - | 1 - 1++ 2+ | 0 - 2+ 2+ | 0 - 1++ 2+; 1/1: - - 2+ 2+ | 1 - - - | 1 - 2+ 2+; 0/0: - - 3+ - | 0 - - - | 0 - 3+ -"},
		{"[ab]{2,3} a{2,4}", ": - - 1== 2=; 0,1/0,1: - - 1++ 2+ | 0 - 3+ - | 0 - 1++ 2+ | 1 - 2+ 2+ | 0 - - - | 0 - 2+ 2+ | 1 - 1++ 2+ | 0 - 3+ - | 0 - 1++ 2+; 0/0: - - 2+ 2+ | 0 - - - | 0 - 2+ 2+; 1/1: - - 3+ - | 1 - - - | 1 - 3+ -"},
		// Counts by their numbers, where the first one is not there any more.
		{"a{2}b{3}", ": - - 1= -; 0/0: - - 1+ - | - - - 2= | - - 1+ 2=; 1/1: - - - 2+ | 0 - - - | 0 - - 2+"},
		// Several rules: the least one.
		{"if [a-z]+", ": - - 1 1 2; 2: 1 - 3 3 3; 0,2: 1 - 3 4 3; 3: 1 - 3 3 3; 1,3: 0 - 3 3 3"}, {"a a a", ": - - 1; 0,1,2: 0 - -"}, {"b a a", ": - - 1 2; 1,2: 1 - - -; 0: 0 - - -"}, {" a", ": - - 1; 0: 1 - -"},
		// States in the order of states and classes; one that is there already stands once.
		{"b.|a. c", ": - - - 1 2 3; 2: - 4 - 4 4 4; 0: - 5 - 5 5 5; 4: 1 - - - - -; 3: 0 - - - - -; 1: 0 - - - - -"}, {"(a|b)c|[ab]d", ": - - 1 2 - -; 0,3: - - - - 3 4; 1,3: - - - - 3 4; 2: 0 - - - - -; 4: 0 - - - - -"}, {"(a|b)*", ": - - 1 2; 0: 0 - 1 2; 1: 0 - 1 2"},
	} {
		g := places(t, strings.Split(x.patterns, " ")...)
		a, e := hold(t, g)
		if got := shown(a); e != api.OK || got != x.want {
			t.Errorf("%q: %s, %d; it must be %s", x.patterns, got, e, x.want)
		}
	}
}

// P11.2: the bounds of what is counted, and the classes.
func TestCounts(t *testing.T) {
	for _, x := range []struct {
		patterns string
		counts   [][2]int
		classes  []api.Set
	}{
		{"", nil, nil}, {"a*b", nil, []api.Set{some('a'), some('b')}}, {"a{1,2}", [][2]int{{1, 2}}, []api.Set{some('a')}}, {"b{4096}a{1,4096}", [][2]int{{4096, 4096}, {1, 4096}}, []api.Set{some('a'), some('b')}},
		{"a{2,3}ba{2,3} b{7} [ab]{3,4}", [][2]int{{2, 3}, {2, 3}, {7, 7}, {3, 4}}, []api.Set{some('a'), some('b')}}, {"[ab]{2}[bc]{3}", [][2]int{{2, 2}, {3, 3}}, []api.Set{some('a'), some('b'), some('c')}}, {"a{2}a{3}a{4}", [][2]int{{2, 2}, {3, 3}, {4, 4}}, []api.Set{some('a')}},
		{"(a{2}b){2}", [][2]int{{2, 2}, {2, 2}}, []api.Set{some('a'), some('b')}}, {"\\x00{2,9}\\xff{3}", [][2]int{{2, 9}, {3, 3}}, []api.Set{some(0), some(255)}},
	} {
		a, e := hold(t, places(t, strings.Split(x.patterns, " ")...))
		if e != api.OK || !slices.Equal(a.Counts, x.counts) || a.Split != split.Of(x.classes...) {
			t.Errorf("%q: %v, %v, %d", x.patterns, a.Counts, a.Split, e)
		}
	}
}

// P11.2: places of no plan: of all digits, of three counts, of rules that do not rise.
func TestPlaces(t *testing.T) {
	a, e := hold(t, goodPlaces())
	if e != api.OK || len(a.Counts) != 3 || a.Split.Many != 4 {
		t.Error(e, shown(a))
	}
	if !slices.ContainsFunc(a.States, func(s api.State) bool { return len(s.R) == 3 && len(s.Rule) == 27 }) {
		t.Error("none of three counts:", shown(a))
	}
	for _, rules := range [][]int{{0}, {511}, {0, 0}, {0, 511}, {511, 0}, {3, 1, 2}, {1, 2, 3}, {3, 2, 1}, {7, 7, 7}} {
		var g api.Glush
		for i, r := range rules {
			g.First = append(g.First, i)
			g.P = append(g.P, api.Pos{S: some('a'), Lo: 1, Hi: 1, Rule: r, Last: true})
		}
		if a, e := hold(t, g); e != api.OK || a.States[1].Rule[0] != slices.Min(rules) {
			t.Error(rules, e, shown(a))
		}
		for i := range rules {
			g.P[i].Last = false
		}
		if a, e := hold(t, g); e != api.OK || a.States[1].Rule[0] != -1 {
			t.Error("none is last:", rules, e, shown(a))
		}
	}
	if a, e := hold(t, api.Glush{}); e != api.OK || shown(a) != ": - -" || a.Split.Many != 1 || len(a.Counts) != 0 {
		t.Error("no places:", e, shown(a))
	}
	// Places that nothing comes to tell classes and counts all the same.
	g := api.Glush{P: []api.Pos{{S: some('a'), Lo: 2, Hi: 5, Last: true, Next: []int{0}}}}
	if a, e := hold(t, g); e != api.OK || shown(a) != ": - - -" || !slices.Equal(a.Counts, [][2]int{{2, 5}}) {
		t.Error("none is first:", e, shown(a), a.Counts)
	}
}

// P11.2: the three digits of three counts, each by itself.
func TestCodeOfThree(t *testing.T) {
	g := api.Glush{First: []int{0, 1, 2}}
	for i := range 3 {
		g.P = append(g.P, api.Pos{S: some("abc"[i], 'x'), Lo: 2, Hi: 3, Rule: 9 - i, Last: true})
	}
	a, e := hold(t, g)
	if e != api.OK {
		t.Fatal(e)
	}
	all := a.States[a.States[0].Next[0][a.Split.Of['x']].To]
	for code := range 27 {
		rule, stay := -1, 0
		for i, digit := range []int{code % 3, code / 3 % 3, code / 9} {
			m := all.Next[code][a.Split.Of["abc"[i]]]
			if digit != 0 {
				rule = 9 - i
			}
			if (m.To == -1) != (digit == 1) || m.To != -1 && !slices.Equal(a.States[m.To].L, []int{i}) {
				t.Error("code", code, "place", i, m)
			}
			if digit != 1 {
				stay++
			}
		}
		m := all.Next[code][a.Split.Of['x']]
		if all.Rule[code] != rule || len(m.Ops) != stay || slices.ContainsFunc(m.Ops, func(op uint8) bool { return op != api.Inc }) {
			t.Error("code", code, all.Rule[code], m)
		}
	}
}

// chain is places one behind the other, each of a byte a, so many.
func chain(many int) api.Glush {
	g := api.Glush{First: []int{0}}
	for i := range many {
		g.P = append(g.P, api.Pos{S: some('a'), Lo: 1, Hi: 1, Next: []int{i + 1}})
	}
	g.P[many-1].Next = nil
	return g
}

// put puts places behind a chain's last one, counted or not, of some byte, so many, and lets them follow some place.
func put(g api.Glush, follow, many, hi int, c byte) api.Glush {
	for range many {
		g.P[follow].Next = append(g.P[follow].Next, len(g.P))
		g.P = append(g.P, api.Pos{S: some(c), Lo: 1, Hi: hi, Last: true})
	}
	return g
}

// P11.2: more counts than a state may have, more states than there may be, and what comes first.
func TestTooMany(t *testing.T) {
	for i, x := range []struct {
		g      api.Glush
		states int // 0: an error
		e      api.Errno
	}{
		{put(chain(1), 0, 3, 2, 'a'), 5, api.OK}, {put(chain(1), 0, 4, 2, 'a'), 0, api.ErrMany}, {put(chain(1), 0, 9, 4096, 'a'), 0, api.ErrMany}, {put(chain(1), 0, 500, 1, 'a'), 3, api.OK}, {put(put(chain(1), 0, 3, 9, 'a'), 0, 3, 9, 'b'), 8, api.OK},
		// As many states as there may be, and one more, of places of all kinds; of which both may be told, what is named first.
		{chain(254), 255, api.OK}, {chain(255), 256, api.OK}, {chain(256), 0, api.ErrLong}, {chain(512), 0, api.ErrLong},
		{put(chain(254), 253, 1, 2, 'a'), 256, api.OK}, {put(chain(255), 254, 1, 2, 'a'), 0, api.ErrLong}, {put(chain(255), 254, 3, 2, 'a'), 0, api.ErrLong}, {put(chain(255), 254, 4, 2, 'a'), 0, api.ErrMany}, {put(chain(254), 253, 4, 2, 'a'), 0, api.ErrMany}, {put(chain(256), 255, 4, 2, 'a'), 0, api.ErrLong},
		// By classes: what the lesser byte tells comes first.
		{put(put(chain(255), 254, 1, 1, 'a'), 254, 4, 2, 'b'), 0, api.ErrLong}, {put(put(chain(255), 254, 1, 1, 'b'), 254, 4, 2, 'a'), 0, api.ErrMany}, {put(put(chain(254), 253, 1, 1, 'a'), 253, 4, 2, 'b'), 0, api.ErrMany},
		// By states: what the one furthest ahead tells comes first.
		{put(chain(300), 3, 4, 2, 'b'), 0, api.ErrMany}, {put(chain(300), 253, 4, 2, 'b'), 0, api.ErrMany}, {put(chain(300), 254, 4, 2, 'b'), 0, api.ErrLong}, {put(chain(300), 255, 4, 2, 'b'), 0, api.ErrLong}, {put(chain(300), 299, 4, 2, 'b'), 0, api.ErrLong},
	} {
		a, e := hold(t, x.g)
		if e != x.e || x.states != 5 && x.states != 8 && len(a.States) != x.states {
			t.Error(i, e, len(a.States))
		}
	}
	if a, e := hold(t, places(t, "a{2}", "a{3}", "a{4}")); e != api.OK || len(a.States[1].Next) != 27 {
		t.Error(e, len(a.States))
	}
	if _, e := hold(t, places(t, "a{2}", "a{3}", "a{4}", "a{5}")); e != api.ErrMany {
		t.Error(e)
	}
	if a, e := hold(t, places(t, "a{2}", "a{3}", "b{4}", "b{5}")); e != api.OK || len(a.Counts) != 4 {
		t.Error(e, len(a.States))
	}
	// Of the last seven bytes each has a state, and the beginning is one more; of eight it would be the one too many.
	if a, e := auto.Of(placed(t, 20, "(a|b)*a(a|b){6}")); e != api.OK || len(a.States) != 129 || !auto.Right(a) {
		t.Error(e, len(a.States))
	}
	if _, e := auto.Of(placed(t, 20, "(a|b)*a(a|b){7}")); e != api.ErrLong {
		t.Error(e)
	}
}

// P11.2: what is not right.
func TestWrong(t *testing.T) {
	for i, g := range wrongPlaces() {
		if a, e := auto.Of(g); e != api.ErrArg || !same(a, api.Auto{}) {
			t.Error(i, e, shown(a))
		}
	}
	// ErrArg is named ahead of the others.
	for _, g := range []api.Glush{put(chain(1), 0, 4, 2, 'a'), chain(300)} {
		g.P[len(g.P)-1].Rule = 512
		if a, e := auto.Of(g); e != api.ErrArg || !same(a, api.Auto{}) {
			t.Error(e, shown(a))
		}
	}
	for _, g := range []api.Glush{put(chain(1), 0, 4, 2, 'a'), chain(300)} {
		if a, e := auto.Of(g); e == api.OK || !same(a, api.Auto{}) || a.States != nil {
			t.Error("beside an error:", e, shown(a))
		}
	}
}

// P11.3: by the codes of what is held it goes the same way, through texts that come to all digits.
func TestSameWay(t *testing.T) {
	for _, x := range [][]string{
		{"if", "[a-z]+"}, {"a{2,3}"}, {"a{3}"}, {"(a{2,3})*"}, {"(a{3})*"}, {"(a{3,5}b|a)*"}, {"[ab]*a[ab]{3,4}"}, {"a{2,3}", "[ab]{2,4}", "[abc]{1,5}"}, {"a*a{2,9}", "b{1,4}a"}, {"(a{2,9}|b)*a"}, {"(ab){2,3}", "(a|bb){2,4}", "b{3,}"}, {"[ab]*a{2,3}", "[ab]*b{1,2}"}, {"((a{2,3}){2}b)+"}, {"a{4,4000}b"},
	} {
		g := places(t, x...)
		a, e := hold(t, g)
		if e != api.OK {
			t.Fatalf("%q: %d", x, e)
		}
		bytes := 0
		for _, w := range []string{"", "a", "b", "c", "aaaaaaaaaaaa", "bbbbbbbbb", "abababababab", "aabaaabaaaab", "bbabbbabbbba", "ifa", "cab", "aabbbbb", "aaaab", "aab\x00a", "\xff"} {
			bytes += goes(t, g, a, w)
		}
		if bytes < 10 {
			t.Errorf("%q: bytes: %d", x, bytes)
		}
	}
	g := places(t, "a*a{4096}", "(a{2,4000}b)*")
	a, e := auto.Of(g)
	if w := strings.Repeat("a", 4100); e != api.OK || goes(t, g, a, w) != len(w) {
		t.Error("a long text:", e)
	}
}

// P11.3: bounds that are others change nothing but Counts.
func TestOtherBounds(t *testing.T) {
	for _, x := range [][2]string{
		{"a{2,3}", "a{1,4096}"}, {"a{2}", "a{4096}"}, {"(a{2,3}b)*", "(a{7}b)*"}, {"[ab]*a[ab]{3,4}", "[ab]*a[ab]{1,200}"}, {"a{2,3} [ab]{2,4} a{5}b", "a{9} [ab]{1,2} a{4000,4095}b"},
	} {
		a, e := auto.Of(places(t, strings.Split(x[0], " ")...))
		b, f := auto.Of(places(t, strings.Split(x[1], " ")...))
		if e != api.OK || f != api.OK || a.Split != b.Split || !sameStates(a.States, b.States) || slices.Equal(a.Counts, b.Counts) {
			t.Errorf("%q: %s, %v, and %s, %v", x, shown(a), a.Counts, shown(b), b.Counts)
		}
	}
}

// DOC.md, Rules 1: as many places as may be, all of which may follow all, with all classes, as many codes and as many states as may be, come to an end while one may wait.
func TestDeep(t *testing.T) {
	g := api.Glush{First: upTo(512)}
	for i := range 512 {
		p := api.Pos{S: some(byte(i)), Lo: 1, Hi: 1, Rule: 511 - i, Last: true, Next: upTo(512)}
		if i%171 == 0 {
			p.Hi = 4096
		}
		g.P = append(g.P, p)
	}
	a, e := auto.Of(g)
	if e != api.ErrLong || !same(a, api.Auto{}) {
		t.Error(e, len(a.States))
	}
	// One set less: the first one and those of the 255 classes are 256 states.
	for i := range g.P {
		g.P[i].S = some(byte(i % 255))
	}
	a, e = auto.Of(g)
	if e != api.OK || len(a.States) != 256 || a.Split.Many != 256 || len(a.Counts) != 3 || !auto.Right(a) {
		t.Fatal(e, len(a.States), a.Split.Many, len(a.Counts))
	}
	for i, s := range a.States[1:] {
		if want := []int{i, i + 255}; !slices.Equal(s.L[:2], want) || s.Rule[0] > 511-i {
			t.Fatal(i, numbers(s.L), s.Rule)
		}
	}
	// Three counts in each state but the first one.
	for i := range g.P {
		if g.P[i].Hi > 1 {
			g.P[i].S = api.Set{1<<64 - 1, 1<<64 - 1, 1<<64 - 1, 1<<63 - 1}
		}
	}
	a, e = auto.Of(g)
	if e != api.OK || len(a.States) != 256 || len(a.States[255].Next) != 27 || len(a.States[255].Next[26]) != 256 || !auto.Right(a) {
		t.Fatal(e, len(a.States))
	}
	a.States[255].Next[26][254].Ops[2] = 4
	if auto.Right(a) {
		t.Error("the last Op of all may be 4")
	}
	for i := range g.P {
		g.P[i].S = some('a', byte(i%60))
	}
	a, e = auto.Of(g)
	if e != api.OK || !auto.Right(a) || len(a.States[a.States[0].Next[0][a.Split.Of['a']].To].L) != 512 {
		t.Error(e, len(a.States))
	}
}
