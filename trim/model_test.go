package trim_test

import (
	"slices"
	"strconv"
	"strings"
	"testing"

	"raddle/api"
	"raddle/auto"
	"raddle/glush"
	"raddle/nca"
	"raddle/plan"
	"raddle/split"
	"raddle/syntax"
	"raddle/trim"
)

// some is the set of some bytes.
func some(l ...byte) api.Set {
	var s api.Set
	for _, c := range l {
		s[c/64] |= 1 << (c % 64)
	}
	return s
}

// copied is an automaton that shares nothing with others.
func copied(a api.Auto) api.Auto {
	a.Counts, a.States = slices.Clone(a.Counts), slices.Clone(a.States)
	for i, s := range a.States {
		a.States[i] = api.State{L: slices.Clone(s.L), R: slices.Clone(s.R), Rule: slices.Clone(s.Rule)}
		for _, moves := range s.Next {
			l := slices.Clone(moves)
			for k := range l {
				l[k].Ops = slices.Clone(l[k].Ops)
			}
			a.States[i].Next = append(a.States[i].Next, l)
		}
	}
	return a
}

func sameMoves(a, b []api.Move) bool {
	return slices.EqualFunc(a, b, func(m, n api.Move) bool { return m.To == n.To && slices.Equal(m.Ops, n.Ops) })
}

func sameStates(a, b []api.State) bool {
	return slices.EqualFunc(a, b, func(s, r api.State) bool {
		return slices.Equal(s.L, r.L) && slices.Equal(s.R, r.R) && slices.Equal(s.Rule, r.Rule) && slices.EqualFunc(s.Next, r.Next, sameMoves)
	})
}

func same(a, b api.Auto) bool {
	return a.Split == b.Split && slices.Equal(a.Counts, b.Counts) && sameStates(a.States, b.States)
}

// placed is the places of patterns, of which repetitions up to some number are written out.
func placed(t *testing.T, most int, patterns ...string) api.Glush {
	t.Helper()
	var plans [][]api.Node
	for _, s := range patterns {
		l, _, e := syntax.Parse(s)
		if e != api.OK {
			t.Fatalf("%.60q: %d", s, e)
		}
		p, e := plan.Tree(l, most)
		if e != api.OK {
			t.Fatalf("%.60q with %d: %d", s, most, e)
		}
		plans = append(plans, p)
	}
	g, e := glush.Of(plans...)
	if e != api.OK {
		t.Fatalf("%.60q: %d", patterns, e)
	}
	return g
}

// places is the places of patterns whose repetitions are counted wherever they may be.
func places(t *testing.T, patterns ...string) api.Glush {
	t.Helper()
	return placed(t, 1, patterns...)
}

func numbers(l []int) string {
	var all []string
	for _, n := range l {
		all = append(all, strconv.Itoa(n))
	}
	return strings.Join(all, ",")
}

// orNone is a number as a text, or - where it is -1.
func orNone(n int) string {
	if n == -1 {
		return "-"
	}
	return strconv.Itoa(n)
}

// shownState is a state as a text: its places, a slash and its counts, if it has some, a colon, and of each code its rule, and where it goes by each class, with what becomes of counts: + where it is Inc, * where it is Both, = where it is Set1.
func shownState(s api.State) string {
	text := numbers(s.L)
	if len(s.R) > 0 {
		text += "/" + numbers(s.R)
	}
	var codes []string
	for code, r := range s.Rule {
		one := orNone(r)
		for _, m := range s.Next[code] {
			one += " " + orNone(m.To)
			for _, op := range m.Ops {
				one += "?+*="[op : op+1]
			}
		}
		codes = append(codes, one)
	}
	return text + ": " + strings.Join(codes, " | ")
}

// shown is an automaton's states as a text.
func shown(a api.Auto) string {
	var all []string
	for _, s := range a.States {
		all = append(all, shownState(s))
	}
	return strings.Join(all, "; ")
}

// read is the automaton that a text shows, of as many classes as a code has moves: of all bytes that no other class has, of a, of b, and so on.
func read(text string, counts ...[2]int) api.Auto {
	a := api.Auto{Counts: counts}
	for _, one := range strings.Split(text, "; ") {
		held, codes, _ := strings.Cut(one, ": ")
		l, r, _ := strings.Cut(held, "/")
		s := api.State{L: parsed(l), R: parsed(r)}
		for _, code := range strings.Split(codes, " | ") {
			all := strings.Split(code, " ")
			s.Rule = append(s.Rule, number(all[0]))
			var moves []api.Move
			for _, m := range all[1:] {
				moves = append(moves, move(m))
			}
			s.Next = append(s.Next, moves)
		}
		a.States = append(a.States, s)
	}
	var sets []api.Set
	for i := range len(a.States[0].Next[0]) - 1 {
		sets = append(sets, some('a'+byte(i)))
	}
	a.Split = split.Of(sets...)
	return a
}

// parsed is the numbers of a text, with commas between.
func parsed(text string) []int {
	var l []int
	for _, one := range strings.Split(text, ",") {
		if one != "" {
			l = append(l, number(one))
		}
	}
	return l
}

// number is that of a text, -1 of the text -.
func number(text string) int {
	n, e := strconv.Atoi(strings.Replace(text, "-", "-1", 1))
	if e != nil {
		panic(text)
	}
	return n
}

// move is the Move of a text: where to, and of each count + for Inc, * for Both, = for Set1.
func move(text string) api.Move {
	digits := strings.TrimRight(text, "+*=")
	m := api.Move{To: number(digits)}
	for _, op := range text[len(digits):] {
		m.Ops = append(m.Ops, uint8(strings.IndexRune("?+*=", op)))
	}
	return m
}

// liveByWords says by the chapter's own words what Live tells.
func liveByWords(a api.Auto) []bool {
	live := make([]bool, len(a.States))
	// What is live is told of one more state at least each time round, till all is told.
	for range a.States {
		for i, s := range a.States {
			live[i] = live[i] || slices.ContainsFunc(s.Rule, func(r int) bool { return r != -1 })
			for _, moves := range s.Next {
				live[i] = live[i] || slices.ContainsFunc(moves, func(m api.Move) bool { return m.To != -1 && live[m.To] })
			}
		}
	}
	return live
}

// alike says by the chapter's own words whether two states have the same number, if it is told which of those that they go to have.
func alike(s, r api.State, sameNumber func(one, other int) bool) bool {
	return slices.Equal(s.R, r.R) && slices.Equal(s.Rule, r.Rule) && slices.EqualFunc(s.Next, r.Next, func(moves, others []api.Move) bool {
		return slices.EqualFunc(moves, others, func(m, n api.Move) bool {
			if m.To == -1 || n.To == -1 {
				return m.To == n.To
			}
			return sameNumber(m.To, n.To) && slices.Equal(m.Ops, n.Ops)
		})
	})
}

// blocksByWords says by the chapter's own words what Blocks tells: all are of one number but those that the words tell apart.
func blocksByWords(a api.Auto) []int {
	many := len(a.States)
	apart := make([]bool, many*many)
	sameNumber := func(one, other int) bool { return !apart[one*many+other] }
	for changed := true; changed; {
		changed = false
		for i, s := range a.States {
			for k, r := range a.States {
				if i != k && sameNumber(i, k) && (i == 0 || k == 0 || !alike(s, r, sameNumber)) {
					apart[i*many+k] = true
					changed = true
				}
			}
		}
	}
	var l []int
	next := 0
	for i := range a.States {
		n := next
		for k := range i {
			if sameNumber(i, k) {
				n = l[k]
			}
		}
		next = max(next, n+1)
		l = append(l, n)
	}
	return l
}

// ofByWords says by the chapter's own words what Of tells of an automaton that is right.
func ofByWords(a api.Auto) api.Auto {
	a = copied(a)
	live := liveByWords(a)
	change(a, func(m api.Move) api.Move {
		if !live[m.To] {
			return api.Move{To: -1}
		}
		return m
	})
	if len(a.Counts) == 0 {
		blocks := blocksByWords(a)
		change(a, func(m api.Move) api.Move {
			m.To = slices.Index(blocks, blocks[m.To])
			return m
		})
	}
	order := []int{0}
	for i := 0; i < len(order); i++ {
		for _, moves := range a.States[order[i]].Next {
			for _, m := range moves {
				if m.To != -1 && !slices.Contains(order, m.To) {
					order = append(order, m.To)
				}
			}
		}
	}
	change(a, func(m api.Move) api.Move {
		m.To = slices.Index(order, m.To)
		return m
	})
	var states []api.State
	for _, s := range order {
		states = append(states, a.States[s])
	}
	a.States = states
	return a
}

// change changes all Moves that go to a state.
func change(a api.Auto, to func(m api.Move) api.Move) {
	for _, s := range a.States {
		for _, moves := range s.Next {
			for i, m := range moves {
				if m.To != -1 {
					moves[i] = to(m)
				}
			}
		}
	}
}

// hold holds what is told of an automaton that is right against the chapter's words, and against what must follow.
func hold(t *testing.T, a api.Auto) api.Auto {
	t.Helper()
	if !auto.Right(a) {
		t.Fatalf("not right: %.500s", shown(a))
	}
	if l := trim.Live(a); !slices.Equal(l, liveByWords(a)) {
		t.Fatalf("%.500s: live are %v; it must be %v", shown(a), l, liveByWords(a))
	}
	if l := trim.Blocks(a); !slices.Equal(l, blocksByWords(a)) {
		t.Fatalf("%.500s: blocks are %v; it must be %v", shown(a), l, blocksByWords(a))
	}
	b, e := trim.Of(a)
	if want := ofByWords(a); e != api.OK || !same(b, want) {
		t.Fatalf("%.500s: %.500s, %d; it must be %.500s", shown(a), shown(b), e, shown(want))
	}
	follows(t, a, b)
	return b
}

// follows holds against the chapter's words what must follow of a trimmed automaton.
func follows(t *testing.T, a, b api.Auto) {
	t.Helper()
	if !auto.Right(b) {
		t.Fatalf("%.500s: not right: %.500s", shown(a), shown(b))
	}
	if c, e := trim.Of(b); e != api.OK || !same(c, b) {
		t.Fatalf("%.500s: %.500s, and trimmed twice %.500s, %d", shown(a), shown(b), shown(c), e)
	}
	if l := trim.Blocks(b); len(b.Counts) == 0 && !slices.Equal(l, upTo(len(b.States))) {
		t.Fatalf("%.500s: %.500s, of which some are alike: %v", shown(a), shown(b), l)
	}
	sameWay(t, a, b)
}

// pair is states of two automata, to which one comes in the same way.
type pair struct{ one, other int }

// sameWay goes through a trimmed automaton and through the other one side by side: the same rules may end, and it goes on where the other one goes to what is live.
func sameWay(t *testing.T, a, b api.Auto) {
	t.Helper()
	live := liveByWords(a)
	seen := map[pair]int{{}: 1}
	for left := []pair{{}}; len(left) > 0; left = left[1:] {
		p := left[0]
		s, r := a.States[p.one], b.States[p.other]
		if !slices.Equal(s.R, r.R) || !slices.Equal(s.Rule, r.Rule) {
			t.Fatalf("%.500s: %.500s: %s is not as %s", shown(a), shown(b), shownState(r), shownState(s))
		}
		for code, moves := range s.Next {
			for class, m := range moves {
				n := r.Next[code][class]
				goes := m.To != -1 && live[m.To]
				if goes != (n.To != -1) || goes && !slices.Equal(m.Ops, n.Ops) || !goes && len(n.Ops) > 0 {
					t.Fatalf("%.500s: %.500s: %s goes on by code %d and class %d otherwise than %s", shown(a), shown(b), shownState(r), code, class, shownState(s))
				}
				if there := (pair{m.To, n.To}); goes && seen[there] == 0 {
					seen[there] = 1
					left = append(left, there)
				}
			}
		}
	}
}

// codeOf is the code of counts, with the bounds of each.
func codeOf(bounds [][2]int, counts [][]int) int {
	code, weight := 0, 1
	for i, l := range counts {
		ripe := slices.ContainsFunc(l, func(n int) bool { return n >= bounds[i][0] })
		below := slices.ContainsFunc(l, func(n int) bool { return n < bounds[i][1] })
		switch {
		case ripe && !below:
			code += weight
		case ripe:
			code += 2 * weight
		}
		weight *= 3
	}
	return code
}

// countsBy is counts behind a byte, by what becomes of them.
func countsBy(op uint8, most int, counts []int) []int {
	var l []int
	if op == api.Set1 || op == api.Both {
		l = append(l, 1)
	}
	if op == api.Inc || op == api.Both {
		for _, n := range counts {
			if n < most {
				l = append(l, n+1)
			}
		}
	}
	return l
}

// ends is, behind each byte of a text, which rule may end there, if one begins at a state without counts; -1 where there is no state any more.
func ends(a api.Auto, state int, w string) []int {
	held := make([][]int, len(a.Counts)) // of each count
	var l []int
	for i := 0; state != -1; i++ {
		s := a.States[state]
		var bounds [][2]int
		var counts [][]int
		for _, c := range s.R {
			bounds, counts = append(bounds, a.Counts[c]), append(counts, held[c])
		}
		code := codeOf(bounds, counts)
		l = append(l, s.Rule[code])
		if i == len(w) {
			return l
		}
		m := s.Next[code][a.Split.Of[w[i]]]
		there := make([][]int, len(a.Counts))
		for k, op := range m.Ops {
			c := a.States[m.To].R[k]
			there[c] = countsBy(op, a.Counts[c][1], held[c])
		}
		state, held = m.To, there
	}
	for len(l) <= len(w) {
		l = append(l, -1)
	}
	return l
}

// endsOfPlaces is, behind each byte of a text, which rule may end there, by layer 10.
func endsOfPlaces(g api.Glush, w string) []int {
	c := nca.Start()
	l := []int{nca.Rule(g, c)}
	for _, b := range []byte(w) {
		c = nca.Step(g, c, b)
		l = append(l, nca.Rule(g, c))
	}
	return l
}

// holdPlaces holds the automaton of places, trimmed, against the chapter's words, and where it ends in some texts against where the places do, and tells it, and how many ends that were.
func holdPlaces(t *testing.T, g api.Glush, texts ...string) (api.Auto, int) {
	t.Helper()
	a, e := auto.Of(g)
	if e != api.OK {
		t.Fatalf("%.500v: %d", g, e)
	}
	b := hold(t, a)
	many := 0
	for _, w := range texts {
		want := endsOfPlaces(g, w)
		if l := ends(b, 0, w); !slices.Equal(l, want) || !slices.Equal(l, ends(a, 0, w)) {
			t.Fatalf("%.500v: %.500s: %.300q: ends are %v; they must be %v", g, shown(b), w, l, want)
		}
		for _, r := range want {
			if r != -1 {
				many++
			}
		}
	}
	return b, many
}

// coarsest is the one of all ways to deal numbers to states by which two have the same just if the chapter says so, that has the fewest; and how many ways do.
func coarsest(a api.Auto) ([]int, int) {
	var best []int
	ways := 0
	deal(len(a.States), func(l []int) {
		sameNumber := func(i, k int) bool { return l[i] == l[k] }
		for i := 1; i < len(l); i++ {
			for k := 1; k < i; k++ {
				if sameNumber(i, k) != alike(a.States[i], a.States[k], sameNumber) {
					return
				}
			}
		}
		ways++
		if best == nil || slices.Max(l) < slices.Max(best) {
			best = slices.Clone(l)
		}
	})
	return best, ways
}

// deal hands out all ways to deal numbers to so many states, the first one alone, so that the numbers come, by rising states, as 0, 1, ..
func deal(many int, take func(l []int)) {
	l := []int{0}
	var more func()
	more = func() {
		if len(l) == many {
			take(l)
			return
		}
		greatest := slices.Max(l)
		for n := 1; n <= greatest+1; n++ {
			l = append(l, n)
			more()
			l = l[:len(l)-1]
		}
	}
	more()
}

// waysOn is in how many ways one may go on from those states of an automaton without Counts that are live and that some byte leads to: from which other texts end otherwise.
func waysOn(a api.Auto) int {
	var texts []string
	last := []string{""}
	for range a.States {
		texts = append(texts, last...)
		var longer []string
		for _, w := range last {
			for _, c := range split.First(a.Split) {
				longer = append(longer, w+string([]byte{c}))
			}
		}
		last = longer
	}
	come := map[int]int{}
	for left := []int{0}; len(left) > 0; left = left[1:] {
		for _, m := range a.States[left[0]].Next[0] {
			if m.To != -1 && come[m.To] == 0 {
				come[m.To] = 1
				left = append(left, m.To)
			}
		}
	}
	live := liveByWords(a)
	ways := map[string]int{}
	for s := range come {
		if live[s] {
			var way strings.Builder
			for _, w := range texts {
				way.WriteString(numbers(ends(a, s, w)) + " ")
			}
			ways[way.String()]++
		}
	}
	return len(ways)
}
