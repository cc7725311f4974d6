package trim_test

import (
	"math"
	"slices"
	"strings"
	"testing"

	"raddle/api"
	"raddle/auto"
	"raddle/split"
	"raddle/trim"
)

// The calls are those of the chapter.
var (
	_ func(api.Auto) []bool                = trim.Live
	_ func(api.Auto) (api.Auto, api.Errno) = trim.Of
	_ func(api.Auto) []int                 = trim.Blocks
)

// good is an automaton that is right, with states of no counts, of one and of three, and Moves of all kinds.
func good() api.Auto {
	a := api.Auto{
		Split:  split.Of(some('a'), some('b')),
		Counts: [][2]int{{1, 2}, {2, 2}, {4096, 4096}, {1, 4096}},
		States: []api.State{{}, {L: []int{0}, R: []int{1}}, {L: []int{3, 100, 511}, R: []int{0, 2, 3}}, {L: []int{1, 2}}, {}},
	}
	for i := range a.States {
		s := &a.States[i]
		for code := range []int{1, 3, 9, 27}[len(s.R)] {
			s.Rule = append(s.Rule, 20*code-1)
			s.Next = append(s.Next, none())
		}
	}
	a.States[0].Next[0] = []api.Move{to(3), to(1, api.Set1), to(2, api.Set1, api.Set1, api.Set1)}
	a.States[1].Next[0] = []api.Move{to(1, api.Inc), to(1, api.Both), to(1, api.Set1)}
	a.States[1].Next[2] = []api.Move{to(2, api.Set1, api.Set1, api.Set1), to(3), to(4)}
	a.States[2].Rule[26] = 511
	a.States[2].Next[26] = []api.Move{to(2, api.Inc, api.Both, api.Set1), to(2, api.Both, api.Set1, api.Inc), to(1, api.Set1)}
	a.States[4].Next[0] = []api.Move{to(4), to(-1), to(1, api.Set1)}
	return a
}

// none is Moves that go nowhere, of three classes.
func none() []api.Move { return []api.Move{{To: -1}, {To: -1}, {To: -1}} }

// to is a Move.
func to(state int, ops ...uint8) api.Move { return api.Move{To: state, Ops: ops} }

// rightAutos are automata that are right.
func rightAutos() []api.Auto {
	l := []api.Auto{good(), {Split: split.Of(), States: []api.State{{Rule: []int{-1}, Next: [][]api.Move{{{To: -1}}}}}}}
	for _, change := range []func(a *api.Auto){
		// Other bytes are dealt to as many classes.
		func(a *api.Auto) { a.Split = split.Of(some(0), some(255)) },
		func(a *api.Auto) { a.Counts[0] = [2]int{2, 2} },
		func(a *api.Auto) { a.Counts[1] = [2]int{1, 4096} },
		func(a *api.Auto) { a.Counts = append(a.Counts, slices.Repeat([][2]int{{1, 2}}, 508)...) },
		func(a *api.Auto) { a.States = append(a.States, slices.Repeat(a.States[4:], 251)...) },
		func(a *api.Auto) {
			a.States = append(a.States, slices.Repeat(a.States[4:], 251)...)
			a.States[0].Next[0][0] = to(255)
		},
		func(a *api.Auto) { a.States[1].L = nil },
		func(a *api.Auto) { a.States[1].L = upTo(512) },
		func(a *api.Auto) { a.States[3].L = []int{511} },
		func(a *api.Auto) { a.States[2].R = []int{0, 1, 3}; a.States[1].R = []int{3} },
		func(a *api.Auto) { a.States[0].Rule[0] = 511 },
		func(a *api.Auto) { a.States[0].Rule[0] = 0 },
		func(a *api.Auto) { a.States[2].Rule[13] = -1 },
		func(a *api.Auto) { a.States[4].Next[0] = none() },
		func(a *api.Auto) { a.States[0].Next[0] = none() },
	} {
		a := good()
		change(&a)
		l = append(l, a)
	}
	return l
}

// upTo is the numbers below one.
func upTo(n int) []int {
	var l []int
	for i := range n {
		l = append(l, i)
	}
	return l
}

// wrongAutos are automata that are not right, each a bit off a good one.
func wrongAutos() []api.Auto {
	var l []api.Auto
	for _, spoil := range slices.Concat(wrongShapes(), wrongStates(), wrongMoves()) {
		a := good()
		spoil(&a)
		l = append(l, a)
	}
	return l
}

// wrongShapes spoil a Split, Counts, or how many states there are.
func wrongShapes() []func(a *api.Auto) {
	l := []func(a *api.Auto){
		func(a *api.Auto) { a.Split = api.Split{} },
		func(a *api.Auto) { a.Split.Many = 2 },
		func(a *api.Auto) { a.Split.Many = 4 },
		func(a *api.Auto) { a.Split.Many = -1 },
		func(a *api.Auto) { a.Split.Many = math.MaxInt },
		func(a *api.Auto) { a.Split.Of[0] = 1 },
		func(a *api.Auto) { a.Split.Of[255] = 3 },
		func(a *api.Auto) { a.Split.Of['a'], a.Split.Of['b'] = 2, 1 },
		func(a *api.Auto) { a.Split = split.Of(some('a')) },
		func(a *api.Auto) { a.Split = split.Of(some('a'), some('b'), some('c')) },
		func(a *api.Auto) { a.Counts = append(a.Counts, slices.Repeat([][2]int{{1, 2}}, 509)...) },
		func(a *api.Auto) { a.Counts = a.Counts[:3] },
		func(a *api.Auto) { a.Counts = nil },
		func(a *api.Auto) { a.States = nil },
		func(a *api.Auto) { a.States = append(a.States, slices.Repeat(a.States[4:], 252)...) },
		func(a *api.Auto) { a.States = a.States[:4] },
		func(a *api.Auto) { a.States = a.States[:1] },
	}
	for _, bounds := range [][2]int{{0, 2}, {-1, 2}, {math.MinInt, 2}, {3, 2}, {1, 1}, {0, 1}, {0, 0}, {1, 0}, {2, 1}, {-2, -2}, {1, -1}, {1, 4097}, {4097, 4097}, {1, math.MaxInt}, {math.MaxInt, math.MaxInt}, {math.MaxInt, 2}, {1, 1<<32 + 2}} {
		for i := range 4 {
			l = append(l, func(a *api.Auto) { a.Counts[i] = bounds })
		}
		l = append(l, func(a *api.Auto) { a.Counts = append(a.Counts, bounds) })
	}
	return l
}

// wrongStates spoil a state's lists, or its Rules.
func wrongStates() []func(a *api.Auto) {
	l := []func(a *api.Auto){
		// The first one with places, or with counts.
		func(a *api.Auto) { a.States[0].L = []int{0} },
		func(a *api.Auto) { a.States[0].L = []int{511} },
		func(a *api.Auto) { a.States[0] = a.States[1] },
		func(a *api.Auto) { a.States[0] = a.States[2] },
		func(a *api.Auto) { a.States[0] = a.States[3] },
		func(a *api.Auto) { a.States[0] = a.States[1]; a.States[0].L = nil },
		func(a *api.Auto) { a.States[0].R = []int{0} },
		// More counts than a state may have, with as many codes as they would have.
		func(a *api.Auto) {
			s := &a.States[2]
			s.R = upTo(4)
			s.Rule, s.Next = slices.Repeat(s.Rule, 3), slices.Repeat(s.Next, 3)
			a.States[0].Next[0][2], a.States[1].Next[2][0], s.Next[26] = to(-1), to(-1), none()
			s.Next[53], s.Next[80] = none(), none()
		},
		func(a *api.Auto) { a.States[2].R = upTo(4) },
		// And without a code, as Codes would have it.
		func(a *api.Auto) { a.States = append(a.States, api.State{R: upTo(4)}) },
		func(a *api.Auto) { a.States = append(a.States, api.State{L: []int{0, 1, 2, 3}, R: upTo(4)}) },
		func(a *api.Auto) { a.States[2].R = []int{0, 2} },
		func(a *api.Auto) { a.States[1].R = nil },
	}
	for _, places := range [][]int{{-1}, {512}, {math.MinInt}, {math.MaxInt}, {1 << 32}, {1, 0}, {0, 0}, {511, 511}, {0, 512}, {-1, 0}, {0, 1, 1}, {0, 2, 1}, {3, 4, 0}, {math.MaxInt, math.MinInt}, upTo(513)} {
		for i := range 5 {
			l = append(l, func(a *api.Auto) { a.States[i].L = places })
		}
	}
	for _, counts := range [][]int{{-1}, {4}, {math.MinInt}, {math.MaxInt}, {1 << 32}, {512}} {
		l = append(l, func(a *api.Auto) { a.States[1].R = counts })
	}
	for _, counts := range [][]int{{2, 0, 3}, {0, 3, 2}, {0, 0, 3}, {0, 3, 3}, {-1, 0, 2}, {0, 2, 4}, {0, 2, math.MaxInt}, {3, 2, 0}} {
		l = append(l, func(a *api.Auto) { a.States[2].R = counts })
	}
	for i, codes := range []int{1, 3, 27, 1, 1} {
		l = append(l,
			func(a *api.Auto) { a.States[i].Rule = append(a.States[i].Rule, 0) }, func(a *api.Auto) { a.States[i].Rule = a.States[i].Rule[1:] }, func(a *api.Auto) { a.States[i].Rule = nil },
			func(a *api.Auto) { a.States[i].Next = append(a.States[i].Next, none()) }, func(a *api.Auto) { a.States[i].Next = a.States[i].Next[1:] }, func(a *api.Auto) { a.States[i].Next = nil },
			func(a *api.Auto) {
				a.States[i].Rule, a.States[i].Next = append(a.States[i].Rule, 0), append(a.States[i].Next, none())
			},
			func(a *api.Auto) { a.States[i].Rule, a.States[i].Next = a.States[i].Rule[1:], a.States[i].Next[1:] })
		for _, rule := range []int{-2, 512, math.MinInt, math.MaxInt, 1 << 32} {
			for _, code := range []int{0, codes / 2, codes - 1} {
				l = append(l, func(a *api.Auto) { a.States[i].Rule[code] = rule })
			}
		}
	}
	return l
}

// wrongMoves spoil a Move, or how many there are.
func wrongMoves() []func(a *api.Auto) {
	var l []func(a *api.Auto)
	for i, codes := range []int{1, 3, 27, 1, 1} {
		for _, code := range []int{0, codes - 1} {
			for _, moves := range [][]api.Move{nil, {}, none()[:1], none()[:2], append(none(), to(-1)), append(none(), none()...)} {
				l = append(l, func(a *api.Auto) { a.States[i].Next[code] = moves })
			}
			for class := range 3 {
				for _, m := range []api.Move{
					// No state, with Ops; states that there are not, or the first one.
					to(-1, api.Set1), to(-1, 0), to(-1, api.Set1, api.Set1, api.Set1), to(-2), to(0), to(5), to(256), to(math.MaxInt), to(math.MinInt), to(1 << 32), to(1<<32 + 3), {},
					to(-2, api.Set1), to(0, api.Set1), to(5, api.Set1),
					// Ops of a wrong number.
					to(1), to(1, api.Set1, api.Set1), to(1, api.Set1, api.Set1, api.Set1), to(2), to(2, api.Set1), to(2, api.Set1, api.Set1), to(2, api.Set1, api.Set1, api.Set1, api.Set1), to(3, api.Set1), to(4, 0), to(4, api.Set1),
					// Ops that there are not.
					to(1, 0), to(1, 4), to(1, 255), to(2, 0, api.Set1, api.Set1), to(2, api.Set1, 4, api.Set1), to(2, api.Set1, api.Set1, 128),
				} {
					l = append(l, func(a *api.Auto) { a.States[i].Next[code][class] = m })
				}
			}
		}
	}
	// What goes on of a count that the state has not.
	for _, op := range []uint8{api.Inc, api.Both} {
		for _, x := range []struct {
			from, code int
			m          api.Move
		}{
			{0, 0, to(1, op)}, {3, 0, to(1, op)}, {4, 0, to(1, op)}, {2, 0, to(1, op)}, {2, 26, to(1, op)},
			{0, 0, to(2, op, api.Set1, api.Set1)}, {1, 1, to(2, op, api.Set1, api.Set1)}, {1, 1, to(2, api.Set1, op, api.Set1)}, {1, 2, to(2, api.Set1, api.Set1, op)}, {1, 0, to(2, op, op, op)}, {3, 0, to(2, api.Set1, api.Set1, op)}, {4, 0, to(2, api.Set1, op, api.Set1)},
		} {
			l = append(l, func(a *api.Auto) { a.States[x.from].Next[x.code][1] = x.m })
		}
	}
	return l
}

// bounds are those of so many counts.
func bounds(many int) [][2]int { return slices.Repeat([][2]int{{2, 3}}, many) }

// flags are bools as a text, of 1 and 0.
func flags(l []bool) string {
	text := ""
	for _, b := range l {
		if b {
			text += "1"
		} else {
			text += "0"
		}
	}
	return text
}

// P12.1: which states are live, worked out by hand.
func TestLive(t *testing.T) {
	for _, x := range []struct {
		text   string
		counts int
		want   string
	}{
		// The first one alone, and by its rule.
		{": - -", 0, "0"}, {": 0 -", 0, "1"}, {": 511 - -", 0, "1"},
		// The first one is not live, and others are, which it does not go to.
		{": - -; 0: 0 -", 0, "01"}, {": - 1; 0: - -; 1: 0 1", 0, "001"},
		// By what one goes to, in both directions, and by the last class.
		{": - 1; 0: - 2; 1: - 3; 2: 0 -", 0, "1111"}, {": - 3; 0: 0 -; 1: - 1; 2: - 2", 0, "1111"}, {": - 1 - -; 0: - - - 2; 1: 9 - - -", 0, "111"}, {": - - 1 -; 0: - 2 - -; 1: - - - -", 0, "000"},
		// Chains of states that go to each other: to no rule, and to one.
		{": - 1; 0: - 1", 0, "00"}, {": 0 1; 0: - 1", 0, "10"}, {": - 1; 0: 0 1", 0, "11"}, {": - 1; 0: - 2; 1: - 1", 0, "000"}, {": - 1; 0: - 2; 1: - 3; 2: - 1", 0, "0000"}, {": - 1 -; 0: - 2 -; 1: - 3 -; 2: - 1 4; 3: 0 - -", 0, "11111"}, {": - 1 -; 0: - 2 -; 1: 0 3 -; 2: - 4 -; 3: - 3 -", 0, "11100"},
		// One goes to what is live and to what is not.
		{": - 1 2; 0: - 1 1; 1: 0 - -", 0, "101"}, {": - 1 2; 0: - 3 -; 1: - 3 4; 2: - - -; 3: 7 2 2", 0, "10101"},
		// By a rule of any code, and by a Move of any code.
		{": - 1=; 0/0: - - | - - | - -", 1, "00"}, {": - 1=; 0/0: 0 - | - - | - -", 1, "11"}, {": - 1=; 0/0: - - | 3 - | - -", 1, "11"}, {": - 1=; 0/0: - - | - - | 0 -", 1, "11"}, {": - 1=; 0/0: - 1+ | - 1= | - 1*", 1, "00"},
		{": - 1=; 0/0: - 2 | - - | - -; 1: 0 -", 1, "111"}, {": - 1=; 0/0: - - | - 2 | - -; 1: 0 -", 1, "111"}, {": - 1=; 0/0: - - | - - | - 2; 1: 0 -", 1, "111"}, {": - 1=; 0/0: - 1+ | - - | - 2; 1: - -", 1, "000"},
	} {
		a := read(x.text, bounds(x.counts)...)
		hold(t, a)
		if got := flags(trim.Live(a)); got != x.want {
			t.Errorf("%s: live are %s; it must be %s", x.text, got, x.want)
		}
	}
}

// P12.2: which states are alike, worked out by hand.
func TestBlocks(t *testing.T) {
	for _, x := range []struct {
		text   string
		counts int
		want   string
	}{
		// The first one stays alone, even where it is like another one.
		{": - -", 0, "0"}, {": - -; 0: - -", 0, "0,1"}, {": - 1; 0: - 1", 0, "0,1"}, {": 0 1 -; 0: 0 1 -; 1: 0 1 -", 0, "0,1,1"},
		// Places tell nothing, rules do, those that are none too.
		{": - -; 0: 0 -; 1,7: 0 -; : 0 -", 0, "0,1,1,1"}, {": - -; 0: 0 -; 0: 1 -", 0, "0,1,2"}, {": - -; 0: 0 -; 0: - -", 0, "0,1,2"}, {": - -; 0: 511 -; 0: - -; 0: 255 -", 0, "0,1,2,3"},
		// One class tells; that one goes nowhere tells.
		{": - - -; 0: 0 1 -; 1: 0 - 1", 0, "0,1,2"}, {": - - -; 0: 0 1 1; 1: 0 1 -", 0, "0,1,2"}, {": - -; 0: 0 1; 1: 0 -", 0, "0,1,2"}, {": - - -; 0: 0 1 2; 1: 1 2 2; 2: 0 3 1", 0, "0,1,2,3"}, {": - - -; 0: 0 1 2; 1: 1 2 2; 2: 0 3 2", 0, "0,1,2,1"},
		// They are alike only because those that they go to are; or are not, because of what is far away.
		{": - 1 2; 0: - 3 -; 1: - 4 -; 2: 0 - -; 3: 0 - -", 0, "0,1,1,2,2"}, {": - 1 2; 0: - 3 -; 1: - 4 -; 2: 0 - -; 3: 1 - -", 0, "0,1,2,3,4"}, {": - 1 2; 0: - 3 -; 1: - 4 -; 2: - 5 -; 3: - 6 -; 4: 0 - -; 5: 0 - -", 0, "0,1,1,2,2,3,3"}, {": - 1 2; 0: - 3 -; 1: - 4 -; 2: - 5 -; 3: - 6 -; 4: 0 - -; 5: 0 - 6", 0, "0,1,2,3,4,5,6"},
		{": - 1; 0: - 2; 1: - 3; 2: - 4; 3: 0 -", 0, "0,1,2,3,4"},
		// Those that go to each other, or to themselves.
		{": - 1; 0: 0 2; 1: 0 1", 0, "0,1,1"}, {": - 1; 0: 0 1; 1: 0 2", 0, "0,1,1"}, {": - 1; 0: 0 2; 1: 0 3; 2: 0 1", 0, "0,1,1,1"}, {": - 1; 0: 0 2; 1: 1 3; 2: 0 4; 3: 1 1", 0, "0,1,2,1,2"}, {": - 1; 0: 0 2; 1: 1 3; 2: 0 4; 3: 1 4", 0, "0,1,2,3,4"},
		// Those that are not live are told apart as others are.
		{": - 1 2; 0: - 1 3; 1: - 2 -; 2: - - -", 0, "0,1,2,3"}, {": - 1 2; 0: - 1 2; 1: - 2 2; 2: - - 3", 0, "0,1,1,2"},
		// Numbers come by rising states.
		{": - -; 0: 1 -; 1: 0 -; 2: 1 -; 3: 2 -; 4: 0 -", 0, "0,1,2,1,3,2"}, {": - 5; 0: 2 -; 1: 1 -; 2: 0 -; 3: 1 -; 4: 2 -", 0, "0,1,2,3,2,1"},
		// Counts tell, if there are as many too; some and none are never alike.
		{": - -; 0/0: 0 - | 0 - | 0 -; 1/0: 0 - | 0 - | 0 -", 2, "0,1,1"}, {": - -; 0/0: 0 - | 0 - | 0 -; 1/1: 0 - | 0 - | 0 -", 2, "0,1,2"}, {": - -; 0/0: - - | - - | - -; 1: - -", 2, "0,1,2"},
		{": - - -; 0/0: 0 1+ - | - - - | - - -; 1/1: 0 2+ - | - - - | - - -; 2/0: 0 3+ - | - - - | - - -", 2, "0,1,2,1"},
		// Rules, and Moves, of one code.
		{": - -; 0/0: - - | 0 - | - -; 1/0: - - | - - | 0 -", 1, "0,1,2"}, {": - -; 0/0: 1 - | 0 - | 0 -; 1/0: 1 - | 0 - | 1 -", 1, "0,1,2"}, {": - -; 0/0: - 1+ | - - | - 1+; 1/0: - - | - 1+ | - 1+; 2/0: - 1+ | - - | - 1+", 1, "0,1,2,1"}, {": - -; 0/0: - 1+ | - 1+ | - 3; 1/0: - 2+ | - 2+ | - -; : 0 -", 1, "0,1,2,3"},
		// A code and a class are not the other way round.
		{": - - -; 0/0: - - 3 | - 4 - | - - -; 1/0: - - 4 | - 3 - | - - -; 2: 0 - -; 3: 1 - -", 1, "0,1,2,3,4"}, {": - - -; 0/0: - - 3 | - - - | - 4 -; 1/0: - - 4 | - - - | - 3 -; 2: 0 - -; 3: 1 - -", 1, "0,1,2,3,4"}, {": - - -; 0/0: - 3 4 | - - - | - - -; 1/0: - 4 3 | - - - | - - -; 2: 0 - -; 3: 1 - -", 1, "0,1,2,3,4"}, {": - - -; 0/0: - 3 - | - 4 - | - - -; 1/0: - 4 - | - 3 - | - - -; 2: 0 - -; 3: 1 - -", 1, "0,1,2,3,4"},
		// Ops of one Move, each other one; where they go is the same.
		{": - -; 0/0: - 1+ | - - | - 1+; 1/0: - 1+ | - - | - 1*", 1, "0,1,2"}, {": - -; 0/0: - 1+ | - - | - 1+; 1/0: - 1+ | - - | - 1=", 1, "0,1,2"}, {": - -; 0/0: - 1+ | - - | - 1*; 1/0: - 2+ | - - | - 2=", 1, "0,1,2"}, {": - -; 0/0: - 1= | - 2= | - 1=; 1/0: - 2= | - 1= | - 2=", 1, "0,1,1"}, {": - -; 0: 0 2=; 1/0: - 2+ | 0 - | 0 2+; 2: 0 2=", 1, "0,1,2,1"},
	} {
		a := read(x.text, bounds(x.counts)...)
		hold(t, a)
		if got := numbers(trim.Blocks(a)); got != x.want {
			t.Errorf("%s: blocks are %s; it must be %s", x.text, got, x.want)
		}
	}
}

// P12.3: the trimmed states, worked out by hand.
func TestOf(t *testing.T) {
	for _, x := range []struct {
		text   string
		counts int
		want   string
	}{
		// The first one alone: it is kept, live or not.
		{": - -", 0, ": - -"}, {": 0 - - -", 0, ": 0 - - -"}, {": - 1; 0: - 1", 0, ": - -"}, {": 0 1; 0: - 1", 0, ": 0 -"}, {": - - -; 0: 0 - 1", 0, ": - - -"},
		// Nothing to trim.
		{": - 1; 0: 0 -", 0, ": - 1; 0: 0 -"}, {": - 1 2; 0: 0 2 -; 1: 0 - 1", 0, ": - 1 2; 0: 0 2 -; 1: 0 - 1"},
		// Moves to what is not live, also where others go to each other.
		{": - 1 2; 0: - 1 1; 1: 0 1 -", 0, ": - - 1; 1: 0 - -"}, {": - 1 2; 0: 7 3 2; 1: - 3 2; 2: - 2 3", 0, ": - 1 -; 0: 7 - -"},
		// One stands for those that are alike, which may go to others that are.
		{": - 1 2; 4: 0 - -; 5: 0 - -", 0, ": - 1 1; 4: 0 - -"}, {": - 2 1; 4: 0 - -; 5: 0 - -", 0, ": - 1 1; 4: 0 - -"}, {": - 1 2; 0: - 3 -; 1: - 4 -; 2: 0 - -; 3: 0 - -", 0, ": - 1 1; 0: - 2 -; 2: 0 - -"}, {": - 1; 0: 0 2; 1: 0 3; 2: 0 1", 0, ": - 1; 0: 0 1"},
		// They are alike only once Moves to what is not live are gone.
		{": - 1 2; 0: 0 3 -; 1: 0 - -; 2: - 3 3", 0, ": - 1 1; 0: 0 - -"}, {": - 1 2; 0: 0 3 1; 1: 0 - 2; 2: - - 3", 0, ": - 1 1; 0: 0 - 1"},
		// The first one of a number stands for all, where nothing else goes to it, too; and it is its Moves that are followed.
		{": - 2; 5: 0 -; 6: 0 -", 0, ": - 1; 5: 0 -"}, {": - 3 -; 1: 0 2 -; 2: 1 - -; 3: 0 4 -; 4: 1 - -", 0, ": - 1 -; 1: 0 2 -; 2: 1 - -"},
		// The first state is like another one, and both stay.
		{": 0 1 -; 0: 0 1 -", 0, ": 0 1 -; 0: 0 1 -"}, {": 0 2 -; 0: 0 1 -; 1: 0 2 -", 0, ": 0 1 -; 0: 0 1 -"},
		// Those that one does not come to from the first one, though they are live, and go to others.
		{": - 3; 0: 1 3; 1: 2 1; 2: 0 -", 0, ": - 1; 2: 0 -"}, {": - -; 0: 0 1", 0, ": - -"},
		// The order: of each state, by classes; then of the next one.
		{": - 3 1; 0: 0 2 -; 1: 1 - -; 2: 2 1 4; 3: 3 - -", 0, ": - 1 2; 2: 2 2 3; 0: 0 4 -; 3: 3 - -; 1: 1 - -"}, {": - 4 - 3; 0: 5 - - 1; 1: 6 1 - 3; 2: 7 2 1 -; 3: 8 3 - -", 0, ": - 1 - 2; 3: 8 2 - -; 2: 7 3 4 -; 1: 6 4 - 2; 0: 5 - - 4"},
		// With Counts those that are alike stay, even if no state has one of them.
		{": - 1 2; 4: 0 - -; 5: 0 - -", 1, ": - 1 2; 4: 0 - -; 5: 0 - -"}, {": - 2; 5: 0 -; 6: 0 -", 1, ": - 1; 6: 0 -"}, {": - 1 2; 0: 0 3 -; 1: 0 - -; 2: - 3 3", 3, ": - 1 2; 0: 0 - -; 1: 0 - -"}, {": - 1= 2=; 0/0: 0 1+ - | 0 - - | 0 - -; 1/0: 0 2+ - | 0 - - | 0 - -", 1, ": - 1= 2=; 0/0: 0 1+ - | 0 - - | 0 - -; 1/0: 0 2+ - | 0 - - | 0 - -"},
		// Moves to what is not live, with Ops, of all codes.
		{": - 1=; 0/0: - 1+ | - 1= | - 1*", 1, ": - -"}, {": - 1= 2=; 0/0: - 1+ 2= | 0 - - | 0 1+ 2+; 1/0: - 2+ 2* | - 2+ - | - 2= 2=", 1, ": - 1= -; 0/0: - 1+ - | 0 - - | 0 1+ -"},
		// The order by codes, and what one comes to by a later code alone.
		{": - 1=; 0/0: - 3 | 0 2 | 0 4; 1: 1 -; 2: 2 -; 3: 3 5; 4: 4 -; 5: 5 -", 1, ": - 1=; 0/0: - 2 | 0 3 | 0 4; 2: 2 -; 1: 1 -; 3: 3 5; 4: 4 -"}, {": - 1= -; 0/0: - 4 - | - 5 2 | - 3 -; 1: 1 - -; 2: 2 - -; 3: 3 - 2; 4: 4 - -", 1, ": - 1= -; 0/0: - 2 - | - 3 4 | - 5 -; 3: 3 - 4; 4: 4 - -; 1: 1 - -; 2: 2 - -"},
		// Ops stay as they are, of all kinds.
		{": - 1== -; 0,1/0,1: " + strings.Repeat("- 1+* - | ", 8) + "9 1=+ 2==; 2/0,1: " + strings.Repeat("- - - | ", 8) + "- 1*+ -", 2, ": - 1== -; 0,1/0,1: " + strings.Repeat("- 1+* - | ", 8) + "9 1=+ 2==; 2/0,1: " + strings.Repeat("- - - | ", 8) + "- 1*+ -"},
	} {
		a := read(x.text, bounds(x.counts)...)
		b := hold(t, a)
		if got := shown(b); got != x.want || b.Split != a.Split || !slices.Equal(b.Counts, a.Counts) {
			t.Errorf("%s: %s; it must be %s", x.text, got, x.want)
		}
	}
}

// P12.3: the chapter's example, field by field.
func TestExample(t *testing.T) {
	a, e := auto.Of(places(t, "ab|cb"))
	if e != api.OK || len(a.States) != 5 || numbers(trim.Blocks(a)) != "0,1,1,2,2" || flags(trim.Live(a)) != "11111" {
		t.Fatal(e, shown(a), trim.Blocks(a), trim.Live(a))
	}
	b, e := trim.Of(a)
	if e != api.OK || b.Split != split.Of(some('a'), some('b'), some('c')) || len(b.Counts) != 0 || len(b.States) != 3 {
		t.Fatal(e, shown(b))
	}
	for i, want := range []api.State{
		{Rule: []int{-1}, Next: [][]api.Move{{to(-1), to(1), to(-1), to(1)}}},
		{L: []int{0}, Rule: []int{-1}, Next: [][]api.Move{{to(-1), to(-1), to(2), to(-1)}}},
		{L: []int{1}, Rule: []int{0}, Next: [][]api.Move{{to(-1), to(-1), to(-1), to(-1)}}},
	} {
		if !sameStates(b.States[i:i+1], []api.State{want}) {
			t.Error(i, shownState(b.States[i]))
		}
	}
}

// P12.3, P12.4: patterns' automata, and where they end.
func TestPatterns(t *testing.T) {
	texts := []string{"", "a", "b", "ab", "cb", "aaaaaaa", "bbbbbb", "ababababc", "aabaaabaaaab", "bbabbbabbbba", "if", "ifa", "cab", "aaaab", "aab\x00a", "\xff", "aacb"}
	for _, x := range []struct {
		patterns string
		left, of int // states
	}{
		{"", 1, 1}, {"()*", 1, 1}, {"a", 2, 2}, {"a*", 2, 2}, {"a+", 2, 3}, {"aa*|a", 2, 3}, {"ab|cb", 3, 5}, {"(a|b)*c", 3, 4}, {"(a|b)(a|b)(a|b)", 4, 7}, {"[ab][ab][ab]", 4, 4}, {"if [a-z]+", 4, 5}, {"a a", 2, 2}, {"a b", 3, 3}, {"ab cb", 5, 5}, {"(ab|cb)* b", 4, 6},
		{"(a|b)*a(a|b)(a|b)", 9, 9}, {"abc|bbc|cbc", 4, 10}, {"(a|b|c)*", 2, 4}, {"a?b?c?", 4, 4}, {"(a*b*)*c", 3, 4},
		// With counts none are merged.
		{"a{2,3}", 2, 2}, {"a{2,3}b|c{2,3}b", 5, 5}, {"(a|b)c{2,3}", 4, 4}, {"[ab]*a[ab]{3,4}", 5, 5}, {"a{2}a", 4, 4}, {"a{2,3} [ab]{2,4}", 4, 4}, {"b|a a{2,9}c", 5, 5},
	} {
		g := places(t, strings.Split(x.patterns, " ")...)
		b, _ := holdPlaces(t, g, texts...)
		a, e := auto.Of(g)
		if e != api.OK || len(a.States) != x.of || len(b.States) != x.left {
			t.Errorf("%q: %s, of %s", x.patterns, shown(b), shown(a))
		}
	}
}

// P12.4: without Counts there are as many as there are ways to go on.
func TestWaysOn(t *testing.T) {
	for _, x := range []string{"", "a", "a+", "aa*|a", "ab|cb", "(a|b)*c", "(a|b)(a|b)", "if|of", "ab cb", "(ab|cb)* b", "a a+ b", "(a|b)*a(a|b)"} {
		a, _ := auto.Of(places(t, strings.Split(x, " ")...))
		if b := hold(t, a); len(b.States) != 1+waysOn(a) {
			t.Errorf("%q: %s; there are %d ways to go on", x, shown(b), waysOn(a))
		}
	}
}

// P12.1, P12.2, P12.3: automata that are right in all ways.
func TestRightOnes(t *testing.T) {
	for i, a := range rightAutos() {
		b := hold(t, a)
		if b.Split != a.Split || !slices.Equal(b.Counts, a.Counts) {
			t.Error(i, b.Counts)
		}
	}
	// Of the good one all but state 3 are live; without a rule none is, and with one of state 4 all are that go to it.
	a := good()
	if got := flags(trim.Live(a)); got != "11101" {
		t.Error(got)
	}
	for i := range a.States {
		for code := range a.States[i].Rule {
			a.States[i].Rule[code] = -1
		}
	}
	if b := hold(t, a); flags(trim.Live(a)) != "00000" || shown(b) != ": - - - -" || len(b.Counts) != 4 {
		t.Error(trim.Live(a), shown(b))
	}
	a.States[4].Rule[0] = 511
	if b := hold(t, a); flags(trim.Live(a)) != "11101" || len(b.States) != 4 || b.States[0].Next[0][0].To != -1 {
		t.Error(trim.Live(a), shown(b))
	}
}

// P12.1, P12.2, P12.3: automata that are not right.
func TestWrong(t *testing.T) {
	for i, a := range append(wrongAutos(), api.Auto{}, api.Auto{Split: split.Of()}, api.Auto{States: make([]api.State, 1)}) {
		if auto.Right(a) {
			t.Fatal(i, "is right")
		}
		if l := trim.Live(a); l != nil {
			t.Error(i, l)
		}
		if l := trim.Blocks(a); l != nil {
			t.Error(i, l)
		}
		if b, e := trim.Of(a); e != api.ErrArg || !same(b, api.Auto{}) || b.Counts != nil || b.States != nil {
			t.Error(i, e, shown(b))
		}
	}
}
