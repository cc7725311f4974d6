package trim_test

import (
	"slices"
	"strings"
	"testing"

	"raddle/api"
	"raddle/auto"
	"raddle/trim"
)

// drawer draws numbers by a rule, so that each run draws the same ones.
type drawer uint64

func (d *drawer) below(n int) int {
	*d = *d*6364136223846793005 + 1442695040888963407
	return int(uint64(*d) >> 33 % uint64(n))
}

// rising draws some of the numbers from one to another one.
func (d *drawer) rising(from, to int) []int {
	var l []int
	for n := from; n <= to; n++ {
		if d.below(3) == 0 {
			l = append(l, n)
		}
	}
	return l
}

func (d *drawer) text(most int) string {
	var b strings.Builder
	for range d.below(most + 1) {
		b.WriteByte("aaaaaaaabbbbbc"[d.below(14)])
	}
	return b.String()
}

// pattern draws a pattern of some depth, with repetitions up to some number.
func (d *drawer) pattern(depth, bound int) string {
	if depth == 0 {
		return []string{"a", "b", "[ab]", "c", "a", "b"}[d.below(6)]
	}
	inner := d.pattern(depth-1, bound)
	switch d.below(6) {
	case 0:
		return "(" + inner + "|" + d.pattern(depth-1, bound) + ")"
	case 1:
		return "(" + inner + ")*"
	case 2, 3:
		return inner + d.pattern(depth-1, bound)
	}
	hi := 1 + d.below(bound)
	return "(" + inner + "){" + numbers([]int{d.below(hi + 1), hi}) + "}"
}

// ops draws what becomes of counts, where some are held already.
func (d *drawer) ops(held, there []int) []uint8 {
	var l []uint8
	for _, c := range there {
		op := api.Set1
		if slices.Contains(held, c) {
			op = uint8(1 + d.below(3))
		}
		l = append(l, op)
	}
	return l
}

// auto draws an automaton that is right, of some states and counts. Rules are few, so that some states are alike.
func (d *drawer) auto(states, counts int) api.Auto {
	a := read(strings.Repeat(": - - -; ", states-1) + ": - - -")
	if d.below(3) == 0 {
		a = read(strings.Repeat(": - -; ", states-1) + ": - -")
	}
	for range counts {
		a.Counts = append(a.Counts, [2]int{1 + d.below(2), 2 + d.below(3)})
	}
	for i := 1; i < states; i++ {
		r := d.rising(0, counts-1)
		a.States[i].L, a.States[i].R = d.rising(0, 5), r[:min(3, len(r))]
	}
	goes, rules := 1+d.below(4), 1+d.below(3)
	for i := range a.States {
		s := &a.States[i]
		s.Rule, s.Next = nil, nil
		for range []int{1, 3, 9, 27}[len(s.R)] {
			s.Rule = append(s.Rule, max(-1, d.below(rules+2)-2))
			moves := slices.Repeat([]api.Move{to(-1)}, a.Split.Many)
			for k := range moves {
				if there := d.below(states); d.below(goes) > 0 && there > 0 {
					moves[k] = to(there, d.ops(s.R, a.States[there].R)...)
				}
			}
			s.Next = append(s.Next, moves)
		}
	}
	return a
}

// twins is an automaton of which each state but the first one is there several times; each Move goes to one of those that are there for its state.
func (d *drawer) twins(a api.Auto) api.Auto {
	of := []int{0}
	for i := 1; i < len(a.States); i++ {
		for range 1 + d.below(3) {
			of = slices.Insert(of, 1+d.below(len(of)), i)
		}
	}
	b := api.Auto{Split: a.Split, Counts: a.Counts}
	for _, i := range of {
		b.States = append(b.States, a.States[i])
	}
	b = copied(b)
	for i := 1; i < len(of); i++ {
		b.States[i].L = d.rising(0, 9)
	}
	change(b, func(m api.Move) api.Move {
		for i := d.below(len(of)); ; i = (i + 1) % len(of) {
			if of[i] == m.To {
				return to(i, m.Ops...)
			}
		}
	})
	return b
}

// small hands out all automata without Counts of so many states and classes, whose rules are 0 or none.
func small(states, classes int, take func(a api.Auto)) {
	kinds := 2
	for range classes {
		kinds *= states
	}
	all := 1
	for range states {
		all *= kinds
	}
	for row := range all {
		a := read(": -" + strings.Repeat(" -", classes))
		a.States = nil
		for range states {
			kind := row % kinds
			row /= kinds
			s := api.State{L: []int{len(a.States)}, Rule: []int{kind%2 - 1}, Next: [][]api.Move{nil}}
			kind /= 2
			for range classes {
				there := kind % states
				if there == 0 {
					there = -1
				}
				s.Next[0] = append(s.Next[0], to(there))
				kind /= states
			}
			a.States = append(a.States, s)
		}
		a.States[0].L = nil
		take(a)
	}
}

// P12.1, P12.2, P12.3, P12.4: all small automata.
func TestAllSmall(t *testing.T) {
	many, several := 0, 0
	for _, x := range []struct{ states, classes int }{{1, 1}, {1, 3}, {2, 1}, {2, 2}, {2, 3}, {3, 1}, {3, 2}, {4, 1}} {
		small(x.states, x.classes, func(a api.Auto) {
			many++
			b := hold(t, a)
			want, ways := coarsest(a)
			if l := trim.Blocks(a); !slices.Equal(l, want) {
				t.Fatalf("%s: blocks are %v; the coarsest are %v", shown(a), l, want)
			}
			if ways > 1 {
				several++
			}
			if len(b.States) != 1+waysOn(a) {
				t.Fatalf("%s: %s; there are %d ways to go on", shown(a), shown(b), waysOn(a))
			}
		})
	}
	if many < 10000 || several < 100 {
		t.Error("automata, and those of which several ways to deal numbers are as the chapter says:", many, several)
	}
}

// P12.1, P12.2, P12.3, P12.4: drawn automata, with Counts and without, of which one goes on in the same way, and ends as before.
func TestMixed(t *testing.T) {
	d := drawer(12)
	told := map[string]int{}
	for i := range 6000 {
		counts := 0
		if i%2 == 1 {
			counts = 1 + d.below(4)
		}
		a := d.auto(1+d.below(3+i%6), counts)
		b := hold(t, a)
		live, blocks := trim.Live(a), trim.Blocks(a)
		if len(a.States) < 6 {
			if want, _ := coarsest(a); !slices.Equal(blocks, want) {
				t.Fatalf("%s: blocks are %v; the coarsest are %v", shown(a), blocks, want)
			}
		}
		for range 3 {
			w := d.text(20)
			if l := ends(b, 0, w); !slices.Equal(l, ends(a, 0, w)) {
				t.Fatalf("%s: %s: %q: ends are %v; they must be %v", shown(a), shown(b), w, l, ends(a, 0, w))
			}
		}
		if counts == 0 && len(a.States) < 5 && len(b.States) != 1+waysOn(a) {
			t.Fatalf("%s: %s; there are %d ways to go on", shown(a), shown(b), waysOn(a))
		}
		for what, is := range map[string]bool{
			"first is not live": !live[0], "first is live": live[0], "some are not live": slices.Contains(live[1:], false) && live[0], "alike": slices.Max(blocks) < len(blocks)-1, "several left": len(b.States) > 2, "fewer": len(b.States) < len(a.States),
			"alike, with Counts": counts > 0 && slices.Max(blocks) < len(blocks)-1, "several left, with Counts": counts > 0 && len(b.States) > 2,
		} {
			if is {
				told[what]++
			}
		}
	}
	for what, many := range told {
		if many < 100 {
			t.Error(what, many)
		}
	}
	if len(told) != 8 {
		t.Error(told)
	}
}

// P12.2, P12.3, P12.4: drawn automata of which each state is there several times: no more numbers than states that there were ahead, and without Counts as many are left.
func TestMixedTwins(t *testing.T) {
	d := drawer(122)
	merged, left := 0, 0
	for i := range 3000 {
		counts := 0
		if i%2 == 1 {
			counts = 1 + d.below(4)
		}
		a := d.auto(1+d.below(3+i%9), counts)
		b := d.twins(a)
		c := hold(t, b)
		if one, other := slices.Max(trim.Blocks(a)), slices.Max(trim.Blocks(b)); one != other {
			t.Fatalf("%s: %d numbers; %s: %d", shown(a), one+1, shown(b), other+1)
		}
		if counts == 0 {
			once := hold(t, a)
			if len(once.States) != len(c.States) {
				t.Fatalf("%s: %s; %s: %s", shown(a), shown(once), shown(b), shown(c))
			}
			sameWay(t, once, c)
			sameWay(t, c, once)
			merged++
		}
		left = max(left, len(c.States))
	}
	if merged < 1000 || left < 10 {
		t.Error(merged, left)
	}
}

// P12.3, P12.4: drawn patterns, with repetitions up to a drawn number written out, and drawn texts, by layer 10.
func TestMixedPatterns(t *testing.T) {
	d := drawer(123)
	held, fewer, ends := 0, 0, 0
	for i := range 1000 {
		var patterns []string
		for range 1 + d.below(3) {
			patterns = append(patterns, d.pattern(1+d.below(2+i%3), 4))
		}
		g := placed(t, 1+d.below(6), patterns...)
		if len(g.P) > 40 {
			continue
		}
		a, e := auto.Of(g)
		if e != api.OK || len(a.States) > 60 {
			continue
		}
		b, many := holdPlaces(t, g, d.text(10), d.text(20), d.text(10+i%20))
		held++
		ends += many
		if len(b.States) < len(a.States) {
			fewer++
		}
	}
	if held < 500 || fewer < 100 || ends < 1000 {
		t.Error("held, with fewer states, ends:", held, fewer, ends)
	}
}

// room is a list with others behind its length.
func room[T any](l []T, behind ...T) []T { return append(slices.Clone(l), behind...)[:len(l)] }

// roomy is an automaton with others behind each list's length.
func roomy(a api.Auto) api.Auto {
	a = copied(a)
	for i := range a.States {
		s := &a.States[i]
		for k, moves := range s.Next {
			for j := range moves {
				moves[j].Ops = room(moves[j].Ops, api.Set1, 77)
			}
			s.Next[k] = room(moves, to(-1), to(-7))
		}
		s.L, s.R, s.Rule = room(s.L, 500, -9), room(s.R, 0, -9), room(s.Rule, 1, -9)
		s.Next = room(s.Next, none(), nil)
	}
	a.States = room(a.States, good().States[1], api.State{L: []int{-9}})
	a.Counts = room(a.Counts, [2]int{2, 3}, [2]int{})
	return a
}

// behind is a list with what stands behind its length, too.
func behind[T any](l []T) []T { return l[:len(l)+2] }

// wide is a roomy automaton with what stands behind each list's length.
func wide(a api.Auto) api.Auto {
	w := api.Auto{Split: a.Split, Counts: behind(a.Counts), States: slices.Clone(behind(a.States))}
	for i, s := range a.States {
		next := slices.Clone(behind(s.Next))
		for k, moves := range s.Next {
			l := slices.Clone(behind(moves))
			for j, m := range moves {
				l[j].Ops = behind(m.Ops)
			}
			next[k] = l
		}
		w.States[i] = api.State{L: behind(s.L), R: behind(s.R), Rule: behind(s.Rule), Next: next}
	}
	return w
}

// DOC.md, Rules 4: what is handed in is not changed, and nothing behind a list's length is read.
func TestArgumentsStay(t *testing.T) {
	d := drawer(4)
	check := func(before api.Auto) {
		t.Helper()
		a := roomy(before)
		live, blocks := trim.Live(a), trim.Blocks(a)
		b, e := trim.Of(a)
		want, wrong := trim.Of(before)
		if !slices.Equal(live, trim.Live(before)) || !slices.Equal(blocks, trim.Blocks(before)) || e != wrong || !same(b, want) {
			t.Fatal("what is behind the length tells:", shown(before))
		}
		if !same(wide(a), wide(roomy(before))) {
			t.Fatal("changed:", shown(before))
		}
	}
	for _, a := range append(rightAutos(), wrongAutos()...) {
		check(a)
	}
	for i := range 500 {
		check(d.twins(d.auto(1+d.below(7), i%3)))
	}
}

// mark puts a number to all that the lists of an automaton hold, up to what they have room for, another one for each list, and tells how many lists that are.
func mark(a *api.Auto, digit func(list int) uint8) int {
	many := 0
	put := func(l []int) {
		many++
		for k := range l[:cap(l)] {
			l[:cap(l)][k] = many
		}
	}
	for i := range a.States {
		s := &a.States[i]
		put(s.L)
		put(s.R)
		put(s.Rule)
		for _, moves := range s.Next {
			for k := range moves[:cap(moves)] {
				moves[:cap(moves)][k].To = many
				many++
				ops := moves[:cap(moves)][k].Ops
				for j := range ops[:cap(ops)] {
					ops[:cap(ops)][j] = digit(many)
				}
			}
		}
	}
	return many
}

// marked tells whether each list still holds what mark put to it.
func marked(a api.Auto, digit func(list int) uint8) bool {
	many, ok := 0, true
	see := func(l []int) {
		many++
		for _, n := range l[:cap(l)] {
			ok = ok && n == many
		}
	}
	for _, s := range a.States {
		see(s.L)
		see(s.R)
		see(s.Rule)
		for _, moves := range s.Next {
			for _, m := range moves[:cap(moves)] {
				ok = ok && m.To == many
				many++
				for _, op := range m.Ops[:cap(m.Ops)] {
					ok = ok && op == digit(many)
				}
			}
		}
	}
	return ok
}

// DOC.md, Rules 5: what is answered shares nothing with what is handed in, nor with other answers, nor one of its lists with another one.
func TestAnswersAreNew(t *testing.T) {
	d := drawer(5)
	lists := 0
	for i := range 500 {
		before := d.twins(d.auto(1+d.below(7), i%3))
		a := copied(before)
		first, _ := trim.Of(a)
		second, _ := trim.Of(a)
		live, blocks := trim.Live(a), trim.Blocks(a)
		wantLive, wantBlocks, want := slices.Clone(live), slices.Clone(blocks), copied(second)
		for _, digit := range []func(int) uint8{func(n int) uint8 { return uint8(n) }, func(n int) uint8 { return uint8(n >> 8) }} {
			lists += mark(&first, digit)
			if !marked(first, digit) {
				t.Fatal("lists share:", shown(before))
			}
		}
		for k := range first.States {
			next := first.States[k].Next
			clear(next[:cap(next)])
		}
		clear(first.Counts[:cap(first.Counts)])
		clear(first.States[:cap(first.States)])
		l, n := trim.Live(a), trim.Blocks(a)
		clear(l[:cap(l)])
		clear(n[:cap(n)])
		third, _ := trim.Of(a)
		if !same(second, want) || !same(a, before) || !same(third, want) || !slices.Equal(live, wantLive) || !slices.Equal(blocks, wantBlocks) || !slices.Equal(trim.Live(a), wantLive) || !slices.Equal(trim.Blocks(a), wantBlocks) {
			t.Fatal("an answer is shared:", shown(before))
		}
		mark(&a, func(int) uint8 { return 0 })
		clear(a.Counts)
		clear(a.States)
		if !same(second, want) || !slices.Equal(live, wantLive) || !slices.Equal(blocks, wantBlocks) {
			t.Fatal("what is handed in is kept:", shown(before))
		}
	}
	if lists < 10000 {
		t.Error("lists:", lists)
	}
}

// DOC.md, Rules 3: a list that is empty is as one that is nil.
func TestEmptyLists(t *testing.T) {
	a := read(": - 1 2; : 0 - 3; : 0 - 4; : - - -; : - - -")
	for i := range a.States {
		s := &a.States[i]
		if i%2 == 0 {
			s.L, s.R = []int{}, []int{}
		}
		for k := range s.Next[0] {
			if k == 1 {
				s.Next[0][k].Ops = []uint8{}
			}
		}
	}
	a.Counts = [][2]int{}
	if b := hold(t, a); shown(b) != ": - 1 1; : 0 - -" || numbers(trim.Blocks(a)) != "0,1,1,2,2" {
		t.Error(shown(b), trim.Blocks(a))
	}
	a.States = []api.State{}
	if b, e := trim.Of(a); e != api.ErrArg || !same(b, api.Auto{}) || len(trim.Live(a)) > 0 || len(trim.Blocks(a)) > 0 {
		t.Error(e, shown(b))
	}
}

// great is an automaton of as many states, codes and classes as may be: of each state but the first one some other one follows by all codes and classes.
func great(follow func(state int) int) api.Auto {
	a := read(strings.Repeat(": - -; ", 255)+": - -", bounds(3)...)
	a.Split.Many = 256
	for b := range 256 {
		a.Split.Of[b] = uint8(b)
	}
	for i := range a.States {
		s := &a.States[i]
		codes, ops := 27, []uint8{api.Inc, api.Both, api.Set1}
		if i == 0 {
			codes, ops = 1, []uint8{api.Set1, api.Set1, api.Set1}
		} else {
			s.R = upTo(3)
		}
		m := to(-1)
		if there := follow(i); there != -1 {
			m = to(there, ops...)
		}
		s.Rule = slices.Repeat([]int{-1}, codes)
		s.Next = slices.Repeat([][]api.Move{slices.Repeat([]api.Move{m}, 256)}, codes)
	}
	return a
}

// DOC.md, Rules 1: as many states as may be, with as many codes and classes, come to an end while one may wait, in whichever order they are told apart.
func TestDeep(t *testing.T) {
	for _, x := range []struct {
		name           string
		follow         func(state int) int
		ends           int // the state where a rule may end
		numbers, lefts int
	}{
		{"up", func(state int) int { return (state+2)%257 - 1 }, 255, 256, 256},
		{"down", func(state int) int { return max(1, (state+255)%256) }, 1, 256, 256},
		// States are alike that are as far from state 1, and the first one goes to that alone.
		{"to halves", func(state int) int { return max(1, state/2) }, 1, 9, 2},
	} {
		a := great(x.follow)
		if l := trim.Live(a); len(l) != 256 || slices.Contains(l, true) {
			t.Error(x.name, flags(l))
		}
		a.States[x.ends].Rule[26] = 511
		if l := trim.Live(a); len(l) != 256 || slices.Contains(l, false) {
			t.Error(x.name, flags(l))
		}
		if l := trim.Blocks(a); slices.Max(l) != x.numbers-1 {
			t.Error(x.name, l)
		}
		if b, e := trim.Of(a); e != api.OK || len(b.States) != x.lefts || !auto.Right(b) {
			t.Error(x.name, e, len(b.States))
		}
	}
}

// P12.2, P12.3: as many states and classes as may be, without Counts.
func TestGreat(t *testing.T) {
	a := great(func(state int) int { return -1 })
	a.Counts = nil
	for i := range a.States {
		s := &a.States[i]
		s.R, s.Rule, s.Next = nil, []int{i%2 - 1}, s.Next[:1]
		for k := range s.Next[0] {
			s.Next[0][k] = to(1 + (i+k)%255)
		}
	}
	if b := hold(t, a); len(b.States) != 256 {
		t.Error(len(b.States))
	}
	// Each even state goes to odd ones alone, and each odd one to even ones.
	for i := range a.States {
		for k := range a.States[i].Next[0] {
			a.States[i].Next[0][k] = to(1 + (i+2*(k%2))%254)
		}
	}
	if b := hold(t, a); len(b.States) != 3 {
		t.Error(shown(b))
	}
}
