package auto

import (
	"math/bits"

	"raddle/api"
	"raddle/bset"
	"raddle/split"
)

const wordBits = 64

// placeSet is a set of places: an array, so that a map tells the state of those that a move goes to.
type placeSet [api.MaxPos / wordBits]uint64

func (s *placeSet) put(places ...int) {
	for _, p := range places {
		s[p/wordBits] |= 1 << (p % wordBits)
	}
}

func (s *placeSet) putAll(t placeSet) {
	for i, w := range t {
		s[i] |= w
	}
}

func (s placeSet) has(p int) bool { return s[p/wordBits]>>(p%wordBits)&1 == 1 }

// rising is the places of the set.
func (s placeSet) rising() []int {
	var l []int
	for i, w := range s {
		for ; w != 0; w &= w - 1 {
			l = append(l, i*wordBits+bits.TrailingZeros64(w))
		}
	}
	return l
}

// builder puts the states of right places, each when one comes to it for the first time.
type builder struct {
	places  []api.Pos
	split   api.Split
	counted []int      // the places that are, rising
	first   placeSet   // which may be first
	next    []placeSet // of each place, which may follow
	takes   []placeSet // of each class, which take its bytes
	states  []api.State
	numbers map[placeSet]int // of each state's places its number

	// What the state and the code that one leaves by make of places.
	entered, stays placeSet
}

// newBuilder has the beginning alone.
func newBuilder(g api.Glush) *builder {
	b := &builder{places: g.P, states: make([]api.State, 1), numbers: map[placeSet]int{}}
	b.first.put(g.First...)
	b.next = make([]placeSet, len(g.P))
	var sets []api.Set
	for i, p := range g.P {
		b.next[i].put(p.Next...)
		sets = append(sets, p.S)
		if isCounted(p) {
			b.counted = append(b.counted, i)
		}
	}
	b.split = split.Of(sets...)
	b.takes = make([]placeSet, b.split.Many)
	for class, least := range split.First(b.split) {
		for i, s := range sets {
			// A set has all bytes of a class, or none.
			if bset.Has(s, least) {
				b.takes[class].put(i)
			}
		}
	}
	return b
}

func isCounted(p api.Pos) bool { return p.Hi > 1 }

// bounds is Lo and Hi of what is counted.
func (b *builder) bounds() [][2]int {
	var l [][2]int
	for _, p := range b.counted {
		l = append(l, [2]int{b.places[p].Lo, b.places[p].Hi})
	}
	return l
}

// leave puts the rules and the moves of a state, code by code.
func (b *builder) leave(state int) api.Errno {
	for code := range Codes(len(b.states[state].R)) {
		rule := b.read(state, code)
		var moves []api.Move
		for class := range b.takes {
			m, e := b.move(class)
			if e != api.OK {
				return e
			}
			moves = append(moves, m)
		}
		// The states' list may be another one by now.
		s := &b.states[state]
		s.Rule = append(s.Rule, rule)
		s.Next = append(s.Next, moves)
	}
	return api.OK
}

// read finds which places are entered from a state by a code, and which stay, and tells the least rule that may end there.
func (b *builder) read(state, code int) int {
	clear(b.entered[:])
	clear(b.stays[:])
	if state == beginning {
		b.entered.putAll(b.first)
	}
	rule := noRule
	for _, i := range b.states[state].L {
		p := b.places[i]
		ripe := true
		if isCounted(p) {
			digit := code % digits
			code /= digits
			ripe = digit != unripe
			if digit != full {
				b.stays.put(i)
			}
		}
		if !ripe {
			continue
		}
		b.entered.putAll(b.next[i])
		if p.Last && (rule == noRule || p.Rule < rule) {
			rule = p.Rule
		}
	}
	return rule
}

// move is where one goes by a class, with what was read.
func (b *builder) move(class int) (api.Move, api.Errno) {
	var to placeSet
	for i, w := range b.takes[class] {
		to[i] = w & (b.entered[i] | b.stays[i])
	}
	if to == (placeSet{}) {
		return api.Move{To: noState}, api.OK
	}
	state, e := b.number(to)
	if e != api.OK {
		return api.Move{}, e
	}
	m := api.Move{To: state}
	for _, count := range b.states[state].R {
		m.Ops = append(m.Ops, b.op(b.counted[count]))
	}
	return m, api.OK
}

// op is what becomes of the counts of a place that one goes to.
func (b *builder) op(place int) uint8 {
	switch {
	case !b.stays.has(place):
		return api.Set1
	case b.entered.has(place):
		return api.Both
	}
	return api.Inc
}

// number is the number of the state of some places, which is put if there is none yet.
func (b *builder) number(places placeSet) (int, api.Errno) {
	if n, ok := b.numbers[places]; ok {
		return n, api.OK
	}
	s := api.State{L: places.rising()}
	for count, p := range b.counted {
		if places.has(p) {
			s.R = append(s.R, count)
		}
	}
	n := len(b.states)
	switch {
	case len(s.R) > api.MaxRegs:
		return 0, api.ErrMany
	case n == api.MaxStates:
		return 0, api.ErrLong
	}
	b.numbers[places] = n
	b.states = append(b.states, s)
	return n, api.OK
}
