package auto_test

import (
	"slices"
	"strconv"
	"strings"
	"testing"

	"raddle/api"
	"raddle/auto"
	"raddle/glush"
	"raddle/nca"
	"raddle/plan"
	"raddle/split"
	"raddle/syntax"
)

// some is the set of some bytes.
func some(l ...byte) api.Set {
	var s api.Set
	for _, c := range l {
		s[c/64] |= 1 << (c % 64)
	}
	return s
}

func has(s api.Set, c byte) bool { return s[c/64]>>(c%64)&1 == 1 }

// copiedPlaces is places that share nothing with others.
func copiedPlaces(g api.Glush) api.Glush {
	c := api.Glush{First: slices.Clone(g.First), P: slices.Clone(g.P)}
	for i := range c.P {
		c.P[i].Next = slices.Clone(c.P[i].Next)
	}
	return c
}

// copied is an automaton that shares nothing with others.
func copied(a api.Auto) api.Auto {
	a.Counts, a.States = slices.Clone(a.Counts), slices.Clone(a.States)
	for i, s := range a.States {
		a.States[i] = api.State{L: slices.Clone(s.L), R: slices.Clone(s.R), Rule: slices.Clone(s.Rule)}
		for _, moves := range s.Next {
			l := slices.Clone(moves)
			for k := range l {
				l[k].Ops = slices.Clone(l[k].Ops)
			}
			a.States[i].Next = append(a.States[i].Next, l)
		}
	}
	return a
}

func samePlaces(a, b api.Glush) bool {
	return slices.Equal(a.First, b.First) && slices.EqualFunc(a.P, b.P, func(p, q api.Pos) bool {
		return p.S == q.S && p.Lo == q.Lo && p.Hi == q.Hi && p.Rule == q.Rule && p.Last == q.Last && slices.Equal(p.Next, q.Next)
	})
}

func sameMoves(a, b []api.Move) bool {
	return slices.EqualFunc(a, b, func(m, n api.Move) bool { return m.To == n.To && slices.Equal(m.Ops, n.Ops) })
}

func sameStates(a, b []api.State) bool {
	return slices.EqualFunc(a, b, func(s, r api.State) bool {
		return slices.Equal(s.L, r.L) && slices.Equal(s.R, r.R) && slices.Equal(s.Rule, r.Rule) && slices.EqualFunc(s.Next, r.Next, sameMoves)
	})
}

func same(a, b api.Auto) bool {
	return a.Split == b.Split && slices.Equal(a.Counts, b.Counts) && sameStates(a.States, b.States)
}

// placed is the places of patterns, of which repetitions up to some number are written out.
func placed(t *testing.T, most int, patterns ...string) api.Glush {
	t.Helper()
	var plans [][]api.Node
	for _, s := range patterns {
		l, _, e := syntax.Parse(s)
		if e != api.OK {
			t.Fatalf("%.60q: %d", s, e)
		}
		p, e := plan.Tree(l, most)
		if e != api.OK {
			t.Fatalf("%.60q with %d: %d", s, most, e)
		}
		plans = append(plans, p)
	}
	g, e := glush.Of(plans...)
	if e != api.OK {
		t.Fatalf("%.60q: %d", patterns, e)
	}
	return g
}

// places is the places of patterns whose repetitions are counted wherever they may be.
func places(t *testing.T, patterns ...string) api.Glush {
	t.Helper()
	return placed(t, 1, patterns...)
}

func numbers(l []int) string {
	var all []string
	for _, n := range l {
		all = append(all, strconv.Itoa(n))
	}
	return strings.Join(all, ",")
}

// orNone is a number as a text, or - where it is -1.
func orNone(n int) string {
	if n == -1 {
		return "-"
	}
	return strconv.Itoa(n)
}

// shownState is a state as a text: its places, a slash and its counts, if it has some, a colon, and of each code its rule, and where it goes by each class, with what becomes of counts: + where it is Inc, * where it is Both, = where it is Set1.
func shownState(s api.State) string {
	text := numbers(s.L)
	if len(s.R) > 0 {
		text += "/" + numbers(s.R)
	}
	var codes []string
	for code, r := range s.Rule {
		one := orNone(r)
		for _, m := range s.Next[code] {
			one += " " + orNone(m.To)
			for _, op := range m.Ops {
				one += "?+*="[op : op+1]
			}
		}
		codes = append(codes, one)
	}
	return text + ": " + strings.Join(codes, " | ")
}

// shown is an automaton's states as a text.
func shown(a api.Auto) string {
	var all []string
	for _, s := range a.States {
		all = append(all, shownState(s))
	}
	return strings.Join(all, "; ")
}

// rises tells whether each number is greater than the one ahead, and from one number to another one.
func rises(l []int, from, to int) bool {
	for i, n := range l {
		if n < from || n > to || i > 0 && n <= l[i-1] {
			return false
		}
	}
	return true
}

// rightByWords says by the chapter's own words what Right tells.
func rightByWords(a api.Auto) bool {
	if !split.Right(a.Split) || len(a.Counts) > 512 || len(a.States) < 1 || len(a.States) > 256 {
		return false
	}
	for _, c := range a.Counts {
		lo, hi := c[0], c[1]
		if !(1 <= lo && lo <= hi && 2 <= hi && hi <= 4096) {
			return false
		}
	}
	for _, s := range a.States {
		if !rises(s.L, 0, 511) || !rises(s.R, 0, len(a.Counts)-1) || len(s.R) > 3 {
			return false
		}
	}
	for _, s := range a.States {
		codes := []int{1, 3, 9, 27}[len(s.R)]
		if len(s.Rule) != codes || len(s.Next) != codes || slices.ContainsFunc(s.Rule, func(r int) bool { return r < -1 || r > 511 }) {
			return false
		}
		for _, moves := range s.Next {
			if len(moves) != a.Split.Many || slices.ContainsFunc(moves, func(m api.Move) bool { return !moveByWords(a, s, m) }) {
				return false
			}
		}
	}
	return len(a.States[0].L) == 0 && len(a.States[0].R) == 0
}

// moveByWords says by the chapter's own words whether a Move may be one of a state.
func moveByWords(a api.Auto, s api.State, m api.Move) bool {
	if m.To == -1 {
		return len(m.Ops) == 0
	}
	if m.To < 0 || m.To == 0 || m.To > len(a.States)-1 {
		return false
	}
	there := a.States[m.To].R
	if len(m.Ops) != len(there) {
		return false
	}
	for i, op := range m.Ops {
		switch op {
		case 1, 2:
			if !slices.Contains(s.R, there[i]) {
				return false
			}
		case 3:
		default:
			return false
		}
	}
	return true
}

// model is what the chapter's own words say of places.
type model struct {
	g       api.Glush
	a       api.Auto
	counted []int
	takes   [][]int // of each class the places whose sets have its bytes
	l       [][]int // of each state its places
}

// at is a state, and a code by which one leaves it.
type at struct{ state, code int }

// ofByWords says by the chapter's own words what Of tells.
func ofByWords(g api.Glush) (api.Auto, api.Errno) {
	if !glush.Right(g) {
		return api.Auto{}, 1
	}
	m := model{g: g, l: [][]int{nil}}
	var sets []api.Set
	for i, p := range g.P {
		sets = append(sets, p.S)
		if p.Hi > 1 {
			m.counted = append(m.counted, i)
			m.a.Counts = append(m.a.Counts, [2]int{p.Lo, p.Hi})
		}
	}
	m.a.Split = split.Of(sets...)
	for class := range m.a.Split.Many {
		m.takes = append(m.takes, m.takers(class))
	}
	for state := 0; state < len(m.l); state++ {
		s := api.State{L: m.l[state], R: m.counts(m.l[state])}
		codes := 1
		for range s.R {
			codes *= 3
		}
		for code := range codes {
			var moves []api.Move
			for class := range m.a.Split.Many {
				to, e := m.move(at{state, code}, class)
				if e != 0 {
					return api.Auto{}, e
				}
				moves = append(moves, to)
			}
			s.Rule = append(s.Rule, m.rule(at{state, code}))
			s.Next = append(s.Next, moves)
		}
		m.a.States = append(m.a.States, s)
	}
	return m.a, 0
}

// counts is the counts' numbers of those places that are counted.
func (m *model) counts(l []int) []int {
	var all []int
	for _, p := range l {
		if n, ok := slices.BinarySearch(m.counted, p); ok {
			all = append(all, n)
		}
	}
	return all
}

// digit is that of a counted place of a state, by a code.
func (m *model) digit(here at, place int) int {
	n, _ := slices.BinarySearch(m.counted, place)
	weight := 1
	for range slices.Index(m.counts(m.l[here.state]), n) {
		weight *= 3
	}
	return here.code / weight % 3
}

func (m *model) ripe(here at, place int) bool {
	return m.g.P[place].Hi == 1 || m.digit(here, place) != 0
}

func (m *model) stays(here at, place int) bool {
	return slices.Contains(m.l[here.state], place) && m.g.P[place].Hi > 1 && m.digit(here, place) != 1
}

func (m *model) entered(here at, place int) bool {
	if here.state == 0 {
		return slices.Contains(m.g.First, place)
	}
	return slices.ContainsFunc(m.l[here.state], func(from int) bool {
		return m.ripe(here, from) && slices.Contains(m.g.P[from].Next, place)
	})
}

func (m *model) rule(here at) int {
	var rules []int
	for _, p := range m.l[here.state] {
		if m.g.P[p].Last && m.ripe(here, p) {
			rules = append(rules, m.g.P[p].Rule)
		}
	}
	if len(rules) == 0 {
		return -1
	}
	return slices.Min(rules)
}

// takers is the places whose sets have a class's bytes.
func (m *model) takers(class int) []int {
	var l []int
	for i, p := range m.g.P {
		all := true
		for b := range 256 {
			all = all && (int(m.a.Split.Of[b]) != class || has(p.S, byte(b)))
		}
		if all {
			l = append(l, i)
		}
	}
	return l
}

func (m *model) move(here at, class int) (api.Move, api.Errno) {
	var l []int
	var ops []uint8
	for _, p := range m.takes[class] {
		entered, stays := m.entered(here, p), m.stays(here, p)
		if !entered && !stays {
			continue
		}
		l = append(l, p)
		switch {
		case m.g.P[p].Hi == 1:
		case entered && stays:
			ops = append(ops, 2)
		case stays:
			ops = append(ops, 1)
		default:
			ops = append(ops, 3)
		}
	}
	if len(l) == 0 {
		return api.Move{To: -1}, 0
	}
	to := slices.IndexFunc(m.l, func(other []int) bool { return slices.Equal(other, l) })
	if to == -1 {
		if len(ops) > 3 {
			return api.Move{}, 110
		}
		if len(m.l) == 256 {
			return api.Move{}, 3
		}
		to = len(m.l)
		m.l = append(m.l, l)
	}
	return api.Move{To: to, Ops: ops}, 0
}

// hold holds the automaton of places against the chapter's words, and against what must follow: it is right.
func hold(t *testing.T, g api.Glush) (api.Auto, api.Errno) {
	t.Helper()
	a, e := auto.Of(g)
	want, wrong := ofByWords(g)
	if e != wrong || !same(a, want) {
		t.Fatalf("%.500v: %.500s, %d; it must be %.500s, %d", g, shown(a), e, shown(want), wrong)
	}
	if right := e == api.OK; auto.Right(a) != right || rightByWords(a) != right {
		t.Fatalf("%.500v: %.500s, %d: right must be %t", g, shown(a), e, right)
	}
	return a, e
}

// codeOf is the code of what is held, by the chapter's own words.
func codeOf(g api.Glush, c api.Config) int {
	code, weight := 0, 1
	for _, h := range c.L {
		p := g.P[h.P]
		if p.Hi == 1 {
			continue
		}
		ripe := slices.ContainsFunc(h.N, func(n int) bool { return n >= p.Lo })
		below := slices.ContainsFunc(h.N, func(n int) bool { return n < p.Hi })
		switch {
		case ripe && !below:
			code += weight
		case ripe:
			code += 2 * weight
		}
		weight *= 3
	}
	return code
}

func placesOf(c api.Config) []int {
	var l []int
	for _, h := range c.L {
		l = append(l, h.P)
	}
	return l
}

// countsBy is the counts of a place behind a byte, by what becomes of them.
func countsBy(op uint8, p api.Pos, counts []int) []int {
	var l []int
	if op == api.Set1 || op == api.Both {
		l = append(l, 1)
	}
	if op == api.Inc || op == api.Both {
		for _, n := range counts {
			if n < p.Hi {
				l = append(l, n+1)
			}
		}
	}
	return l
}

// becomes holds what is held behind a byte against what a Move makes of what was held ahead.
func becomes(t *testing.T, g api.Glush, m api.Move, ahead, behind api.Config) {
	t.Helper()
	ops := m.Ops
	for _, h := range behind.L {
		want := []int{1}
		if p := g.P[h.P]; p.Hi > 1 {
			i := slices.IndexFunc(ahead.L, func(k api.Held) bool { return k.P == h.P })
			var counts []int
			if i >= 0 {
				counts = ahead.L[i].N
			}
			want = countsBy(ops[0], p, counts)
			ops = ops[1:]
		}
		if !slices.Equal(h.N, want) {
			t.Fatalf("%.500v: place %d has counts %v by layer 10, %v by the automaton", g, h.P, h.N, want)
		}
	}
}

// goes holds the way of an automaton through a text, by the codes of what is held, against that of its places, and tells how many bytes it takes.
func goes(t *testing.T, g api.Glush, a api.Auto, w string) int {
	t.Helper()
	c, state := nca.Start(), 0
	for i := 0; ; i++ {
		s, code := a.States[state], codeOf(g, c)
		if !slices.Equal(s.L, placesOf(c)) || s.Rule[code] != nca.Rule(g, c) {
			t.Fatalf("%.500v behind %q: state %s, code %d; held are %v, of rule %d", g, w[:i], shownState(s), code, c, nca.Rule(g, c))
		}
		if i == len(w) {
			return i
		}
		m := s.Next[code][a.Split.Of[w[i]]]
		there := nca.Step(g, c, w[i])
		if m.To == -1 {
			if len(there.L) > 0 {
				t.Fatalf("%.500v behind %q: no state; held are %v", g, w[:i+1], there)
			}
			return i
		}
		becomes(t, g, m, c, there)
		c, state = there, m.To
	}
}
