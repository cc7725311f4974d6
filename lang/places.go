package lang

import (
	"math/bits"
	"slices"
)

// wordBits is how many places a word holds.
const wordBits = 64

// places is a set of places of a text: of the words the first one holds those from skip times wordBits on, so that far behind a text's beginning a few places take little room. The first and the last word hold some; without a place there is no word, and skip is 0.
type places struct {
	skip  int
	words []uint64
}

// only is a set of one place.
func only(place int) places {
	var s places
	s.put(place)
	return s
}

func (s places) none() bool { return len(s.words) == 0 }

func (s places) same(t places) bool {
	return s.skip == t.skip && slices.Equal(s.words, t.words)
}

// copied is a set that may be changed, while the other one stays.
func (s places) copied() places {
	return places{s.skip, slices.Clone(s.words)}
}

func (s *places) put(place int) {
	word := place / wordBits
	s.stretch(word, word+1)
	s.words[word-s.skip] |= 1 << (place % wordBits)
}

// join puts all places of another set.
func (s *places) join(t places) {
	if t.none() {
		return
	}
	s.stretch(t.skip, t.skip+len(t.words))
	for i, word := range t.words {
		s.words[t.skip+i-s.skip] |= word
	}
}

// stretch makes room for the words from one up to another.
func (s *places) stretch(from, to int) {
	if s.none() {
		s.skip = from
	}
	if from < s.skip {
		s.words = append(make([]uint64, s.skip-from), s.words...)
		s.skip = from
	}
	for s.skip+len(s.words) < to {
		s.words = append(s.words, 0)
	}
}

// without is the places that another set does not have.
func (s places) without(t places) places {
	rest := s.copied()
	for i := range rest.words {
		if k := s.skip + i - t.skip; k >= 0 && k < len(t.words) {
			rest.words[i] &^= t.words[k]
		}
	}
	return rest.trimmed()
}

// trimmed is the set without the words at both ends that hold nothing.
func (s places) trimmed() places {
	words, skip := s.words, s.skip
	for len(words) > 0 && words[0] == 0 {
		words = words[1:]
		skip++
	}
	for len(words) > 0 && words[len(words)-1] == 0 {
		words = words[:len(words)-1]
	}
	if len(words) == 0 {
		return places{}
	}
	return places{skip, words}
}

// list is the places, rising.
func (s places) list() []int {
	var l []int
	for i, word := range s.words {
		for ; word != 0; word &= word - 1 {
			l = append(l, (s.skip+i)*wordBits+bits.TrailingZeros64(word))
		}
	}
	return l
}
