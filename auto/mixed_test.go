package auto_test

import (
	"slices"
	"strings"
	"testing"

	"raddle/api"
	"raddle/auto"
)

// drawer draws numbers by a rule, so that each run draws the same ones.
type drawer uint64

func (d *drawer) below(n int) int {
	*d = *d*6364136223846793005 + 1442695040888963407
	return int(uint64(*d) >> 33 % uint64(n))
}

// rising draws some of the numbers from one to another one.
func (d *drawer) rising(from, to int) []int {
	var l []int
	for n := from; n <= to; n++ {
		if d.below(3) == 0 {
			l = append(l, n)
		}
	}
	return l
}

func (d *drawer) text(most int) string {
	var b strings.Builder
	for range d.below(most + 1) {
		b.WriteByte("aaaaaaaabbbbbc"[d.below(14)])
	}
	return b.String()
}

// place draws a place, whose Next are of so many.
func (d *drawer) place(many int) api.Pos {
	hi := 1
	if d.below(5) < 2 {
		hi = 2 + d.below(4)
	}
	set := []api.Set{some('a'), some('b'), some('a', 'b'), some('b', 'c')}[d.below(4)]
	return api.Pos{S: set, Lo: 1 + d.below(hi), Hi: hi, Rule: d.below(4), Last: d.below(2) == 0, Next: d.rising(0, many-1)}
}

// places draws places that are those of no plan, mostly.
func (d *drawer) places(many int) api.Glush {
	g := api.Glush{First: d.rising(0, many-1)}
	for range many {
		g.P = append(g.P, d.place(many))
	}
	return g
}

// pattern draws a pattern of some depth, with repetitions up to some number.
func (d *drawer) pattern(depth, bound int) string {
	if depth == 0 {
		return []string{"a", "b", "[ab]", "c", "a", "b"}[d.below(6)]
	}
	inner := d.pattern(depth-1, bound)
	switch d.below(6) {
	case 0:
		return "(" + inner + "|" + d.pattern(depth-1, bound) + ")"
	case 1:
		return "(" + inner + ")*"
	case 2, 3:
		return inner + d.pattern(depth-1, bound)
	}
	hi := 1 + d.below(bound)
	return "(" + inner + "){" + numbers([]int{d.below(hi + 1), hi}) + "}"
}

// spoilt is an automaton with something changed, which may be right all the same.
func (d *drawer) spoilt(a api.Auto) api.Auto {
	a = copied(a)
	s := &a.States[d.below(len(a.States))]
	code := d.below(len(s.Rule))
	m := &s.Next[code][d.below(a.Split.Many)]
	off := d.below(5) - 2
	switch d.below(12) {
	case 0:
		s.L = slices.Insert(s.L, d.below(len(s.L)+1), d.below(8)-1)
	case 1:
		s.R = slices.Insert(s.R, d.below(len(s.R)+1), d.below(len(a.Counts)+2)-1)
	case 2:
		if len(s.L) > 0 {
			s.L[d.below(len(s.L))] += off
		}
	case 3:
		if len(s.R) > 0 {
			s.R[d.below(len(s.R))] += off
		}
	case 4:
		s.Rule[code] += off
	case 5:
		m.To += off
	case 6:
		m.To = d.below(len(a.States)+2) - 1
	case 7:
		m.Ops = slices.Insert(m.Ops, d.below(len(m.Ops)+1), uint8(d.below(5)))
	case 8:
		if len(m.Ops) > 0 {
			m.Ops[d.below(len(m.Ops))] = uint8(d.below(5))
		}
	case 9:
		a.States = a.States[:d.below(len(a.States)+1)]
	case 10:
		if len(a.Counts) > 0 {
			a.Counts[d.below(len(a.Counts))][d.below(2)] += off
		}
	case 11:
		a.Split.Of[d.below(256)] = uint8(d.below(a.Split.Many + 1))
	}
	return a
}

// lists hands out all lists of the numbers from one to another one that rise.
func lists(from, to int, take func([]int)) {
	for picked := range 1 << (to - from + 1) {
		var l []int
		for n := from; n <= to; n++ {
			if picked>>(n-from)&1 == 1 {
				l = append(l, n)
			}
		}
		take(l)
	}
}

// P11.2, P11.3: two places of all kinds, in all orders, through all short texts.
func TestAllPairs(t *testing.T) {
	var kinds []api.Pos
	for _, s := range []api.Set{some('a'), some('a', 'b')} {
		for _, bounds := range [][2]int{{1, 1}, {1, 2}, {2, 3}, {3, 3}} {
			for _, last := range []bool{false, true} {
				lists(0, 1, func(next []int) {
					kinds = append(kinds, api.Pos{S: s, Lo: bounds[0], Hi: bounds[1], Last: last, Next: next})
				})
			}
		}
	}
	bytes := 0
	for i, first := range kinds {
		for k, second := range kinds {
			first.Rule, second.Rule = i%3, k%2
			g := api.Glush{P: []api.Pos{first, second}}
			lists(0, 1, func(l []int) {
				g.First = l
				a, e := hold(t, g)
				if e != api.OK {
					t.Fatalf("%v: %d", g, e)
				}
				for _, w := range []string{"aaaaaa", "aabaab", "baaaba"} {
					bytes += goes(t, g, a, w)
				}
			})
		}
	}
	if bytes < 50000 {
		t.Error("bytes:", bytes)
	}
}

// P11.2, P11.3: drawn places of no plan, and drawn texts.
func TestMixedPlaces(t *testing.T) {
	d := drawer(11)
	ok, many, bytes, most := 0, 0, 0, 0
	for i := range 3000 {
		g := d.places(1 + d.below(3+i%7))
		a, e := hold(t, g)
		if e == api.ErrMany {
			many++
			continue
		}
		ok++
		most = max(most, len(a.States))
		for range 4 {
			bytes += goes(t, g, a, d.text(20))
		}
	}
	if ok < 2000 || many < 50 || bytes < 20000 || most < 20 {
		t.Error("automata, too many counts, bytes, the most states:", ok, many, bytes, most)
	}
}

// P11.2: drawn places behind a chain that has nearly as many states as there may be.
func TestMixedLong(t *testing.T) {
	d := drawer(112)
	told := map[api.Errno]int{}
	for range 500 {
		long := 238 + d.below(18)
		tail := d.places(2 + d.below(8))
		g := chain(long)
		for _, p := range tail.First {
			from := &g.P[long-1-d.below(3)]
			from.Next = append(from.Next, long+p)
		}
		for _, p := range tail.P {
			for i := range p.Next {
				p.Next[i] += long
			}
			g.P = append(g.P, p)
		}
		_, e := hold(t, g)
		told[e]++
	}
	if told[api.OK] < 50 || told[api.ErrLong] < 50 || told[api.ErrMany] < 10 {
		t.Error(told)
	}
}

// P11.2, P11.3: drawn patterns, however many, with repetitions up to a drawn number written out, and drawn texts.
func TestMixedPatterns(t *testing.T) {
	d := drawer(113)
	told := map[api.Errno]int{}
	bytes := 0
	for i := range 1500 {
		var patterns []string
		for range 1 + d.below(3) {
			patterns = append(patterns, d.pattern(1+d.below(2+i%3), 4))
		}
		g := placed(t, 1+d.below(4), patterns...)
		if len(g.P) > 40 {
			continue
		}
		a, e := hold(t, g)
		told[e]++
		for range 4 {
			if e == api.OK {
				bytes += goes(t, g, a, d.text(10+i%20))
			}
		}
	}
	if told[api.OK] < 1000 || told[api.ErrMany] < 10 || bytes < 10000 {
		t.Error(told, bytes)
	}
}

// P11.3: bounds that are others, with the same places counted, change nothing but Counts; errors neither.
func TestMixedBounds(t *testing.T) {
	d := drawer(114)
	for range 1000 {
		g := d.places(1 + d.below(8))
		a, e := auto.Of(g)
		var counts [][2]int
		for i, p := range g.P {
			if p.Hi > 1 {
				g.P[i].Hi = 2 + d.below(4095)
				g.P[i].Lo = 1 + d.below(g.P[i].Hi)
				counts = append(counts, [2]int{g.P[i].Lo, g.P[i].Hi})
			}
		}
		b, f := auto.Of(g)
		if e != f || a.Split != b.Split || !sameStates(a.States, b.States) || e == api.OK && !slices.Equal(b.Counts, counts) {
			t.Fatalf("%v: %s, %d, and %s, %d", g, shown(a), e, shown(b), f)
		}
	}
}

// P11.1: automata of drawn places with something changed, right and not.
func TestMixedRight(t *testing.T) {
	d := drawer(111)
	right, wrong := 0, 0
	check := func(a api.Auto) {
		t.Helper()
		if auto.Right(a) != rightByWords(a) {
			t.Fatalf("right must be %t: %.300s", rightByWords(a), shownWhole(a))
		}
		if rightByWords(a) {
			right++
		} else {
			wrong++
		}
	}
	for range 400 {
		a, e := auto.Of(d.places(1 + d.below(7)))
		if e != api.OK {
			continue
		}
		for range 20 {
			check(d.spoilt(a))
		}
	}
	for range 3000 {
		check(d.spoilt(good()))
	}
	if right < 2000 || wrong < 2000 {
		t.Error("right, and wrong:", right, wrong)
	}
}

// room is a list with others behind its length.
func room[T any](l []T, behind ...T) []T { return append(slices.Clone(l), behind...)[:len(l)] }

// roomyPlaces is places with others behind each list's length.
func roomyPlaces(g api.Glush) api.Glush {
	g = copiedPlaces(g)
	g.First = room(g.First, 0, 99)
	for i := range g.P {
		g.P[i].Next = room(g.P[i].Next, 0, 99)
	}
	g.P = room(g.P, api.Pos{Lo: -1}, goodPlaces().P[1])
	return g
}

// roomy is an automaton with others behind each list's length.
func roomy(a api.Auto) api.Auto {
	a = copied(a)
	for i := range a.States {
		s := &a.States[i]
		for k, moves := range s.Next {
			for j := range moves {
				moves[j].Ops = room(moves[j].Ops, api.Set1, 77)
			}
			s.Next[k] = room(moves, to(-1), to(-7))
		}
		s.L, s.R, s.Rule = room(s.L, 500, -9), room(s.R, 0, -9), room(s.Rule, 1, -9)
		s.Next = room(s.Next, none(), nil)
	}
	a.States = room(a.States, good().States[1], api.State{L: []int{-9}})
	a.Counts = room(a.Counts, [2]int{2, 3}, [2]int{})
	return a
}

// behind is a list with what stands behind its length, too.
func behind[T any](l []T) []T { return l[:len(l)+2] }

// widePlaces is roomy places with what stands behind each list's length.
func widePlaces(g api.Glush) api.Glush {
	w := api.Glush{First: behind(g.First), P: slices.Clone(behind(g.P))}
	for i := range g.P {
		w.P[i].Next = behind(g.P[i].Next)
	}
	return w
}

// wide is a roomy automaton with what stands behind each list's length.
func wide(a api.Auto) api.Auto {
	w := api.Auto{Split: a.Split, Counts: behind(a.Counts), States: slices.Clone(behind(a.States))}
	for i, s := range a.States {
		next := slices.Clone(behind(s.Next))
		for k, moves := range s.Next {
			l := slices.Clone(behind(moves))
			for j, m := range moves {
				l[j].Ops = behind(m.Ops)
			}
			next[k] = l
		}
		w.States[i] = api.State{L: behind(s.L), R: behind(s.R), Rule: behind(s.Rule), Next: next}
	}
	return w
}

// DOC.md, Rules 4: what is handed in is not changed, and nothing behind a list's length is read.
func TestArgumentsStay(t *testing.T) {
	d := drawer(4)
	checkPlaces := func(before api.Glush) {
		t.Helper()
		g := roomyPlaces(before)
		a, e := auto.Of(g)
		if want, wrong := auto.Of(before); e != wrong || !same(a, want) {
			t.Fatal("what is behind the length tells:", before)
		}
		if !samePlaces(widePlaces(g), widePlaces(roomyPlaces(before))) {
			t.Fatal("changed:", before)
		}
	}
	for _, g := range append(wrongPlaces(), goodPlaces(), chain(255), chain(300)) {
		checkPlaces(g)
	}
	for range 500 {
		checkPlaces(d.places(1 + d.below(7)))
	}
	check := func(before api.Auto) {
		t.Helper()
		a := roomy(before)
		if auto.Right(a) != auto.Right(before) {
			t.Fatal("what is behind the length tells:", shownWhole(before))
		}
		if !same(wide(a), wide(roomy(before))) {
			t.Fatal("changed:", shownWhole(before))
		}
	}
	for _, a := range append(rightAutos(), wrongAutos()...) {
		check(a)
	}
}

// mark puts a number to all that the lists of an automaton hold, up to what they have room for, another one for each list, and tells how many lists that are.
func mark(a *api.Auto, digit func(list int) uint8) int {
	many := 0
	put := func(l []int) {
		many++
		for k := range l[:cap(l)] {
			l[:cap(l)][k] = many
		}
	}
	for i := range a.States {
		s := &a.States[i]
		put(s.L)
		put(s.R)
		put(s.Rule)
		for _, moves := range s.Next {
			for k := range moves[:cap(moves)] {
				moves[:cap(moves)][k].To = many
				many++
				ops := moves[:cap(moves)][k].Ops
				for j := range ops[:cap(ops)] {
					ops[:cap(ops)][j] = digit(many)
				}
			}
		}
	}
	return many
}

// marked tells whether each list still holds what mark put to it.
func marked(a api.Auto, digit func(list int) uint8) bool {
	many, ok := 0, true
	see := func(l []int) {
		many++
		for _, n := range l[:cap(l)] {
			ok = ok && n == many
		}
	}
	for _, s := range a.States {
		see(s.L)
		see(s.R)
		see(s.Rule)
		for _, moves := range s.Next {
			for _, m := range moves[:cap(moves)] {
				ok = ok && m.To == many
				many++
				for _, op := range m.Ops[:cap(m.Ops)] {
					ok = ok && op == digit(many)
				}
			}
		}
	}
	return ok
}

// DOC.md, Rules 5: what is answered shares nothing with what is handed in, nor with other answers, nor one of its lists with another one.
func TestAnswersAreNew(t *testing.T) {
	d := drawer(5)
	lists := 0
	for range 300 {
		before := d.places(1 + d.below(7))
		g := copiedPlaces(before)
		first, e := auto.Of(g)
		if e != api.OK {
			continue
		}
		second, _ := auto.Of(g)
		want := copied(second)
		for _, digit := range []func(int) uint8{func(n int) uint8 { return uint8(n) }, func(n int) uint8 { return uint8(n >> 8) }} {
			lists += mark(&first, digit)
			if !marked(first, digit) {
				t.Fatal("lists share:", before)
			}
		}
		for i := range first.States {
			next := first.States[i].Next
			clear(next[:cap(next)])
		}
		clear(first.Counts[:cap(first.Counts)])
		clear(first.States[:cap(first.States)])
		third, _ := auto.Of(g)
		if !same(second, want) || !samePlaces(g, before) || !same(third, want) {
			t.Fatal("an answer is shared:", before)
		}
		for i := range g.P {
			clear(g.P[i].Next)
		}
		clear(g.First)
		clear(g.P)
		if !same(second, want) {
			t.Fatal("what is handed in is kept:", before)
		}
	}
	if lists < 10000 {
		t.Error("lists:", lists)
	}
}

// DOC.md, Rules 3: a list that is empty is as one that is nil.
func TestEmptyLists(t *testing.T) {
	if a, e := auto.Of(api.Glush{First: []int{}, P: []api.Pos{}}); e != api.OK || shown(a) != ": - -" {
		t.Error(e, shown(a))
	}
	g := places(t, "a")
	g.P[0].Next = []int{}
	if a, e := auto.Of(g); e != api.OK || shown(a) != ": - - 1; 0: 0 - -" {
		t.Error(e, shown(a))
	}
	g.First = []int{}
	if a, e := auto.Of(g); e != api.OK || shown(a) != ": - - -" {
		t.Error(e, shown(a))
	}
	a := good()
	a.States[0].L, a.States[0].R, a.States[3].R, a.States[4].L = []int{}, []int{}, []int{}, []int{}
	a.States[0].Next[0][0].Ops, a.States[3].Next[0][0].Ops = []uint8{}, []uint8{}
	if !auto.Right(a) {
		t.Error("not right")
	}
	a = good()
	a.States = []api.State{}
	if auto.Right(a) || auto.Right(api.Auto{Split: good().Split, Counts: [][2]int{}, States: []api.State{}}) {
		t.Error("right without a state")
	}
	a = good()
	a.States[3].Rule, a.States[3].Next = []int{}, [][]api.Move{}
	if auto.Right(a) {
		t.Error("right without a code")
	}
	a = good()
	a.States[3].Next[0] = []api.Move{}
	if auto.Right(a) {
		t.Error("right without a Move")
	}
}

// P11.2: all plans of some patterns, alone and together, whatever is counted: what cannot be told is told so by the words.
func TestMostWrittenOut(t *testing.T) {
	patterns := []string{"a{2,5}", "(a|b){3}", "[ab]*a[ab]{4}", "(a{2,3}b?)*", "a{3,}b", "(ab){1,3}"}
	for most := 1; most <= 6; most++ {
		for i, p := range patterns {
			for _, q := range patterns[i:] {
				g := placed(t, most, p, q)
				a, e := hold(t, g)
				if e != api.OK {
					continue
				}
				for _, w := range []string{"aaaaaaaa", "abababab", "aabaaabab", "bbbaaaa"} {
					goes(t, g, a, w)
				}
			}
		}
	}
}
