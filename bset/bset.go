// Package bset is layer 1: see shared/doc/01-bset.md.
package bset

import "raddle/api"

// byteCount is how many bytes there are.
const byteCount = 256

// caseGap is how much greater a letter of a to z is than its A to Z.
const caseGap = 'a' - 'A'

// Of is the set of some bytes.
func Of(l ...byte) api.Set {
	var s api.Set
	for _, b := range l {
		s[b/64] |= bit(b)
	}
	return s
}

// Range is the bytes from one to another.
func Range(lo, hi byte) api.Set {
	var s api.Set
	// An int goes past 255; a byte would wrap round and never end.
	for i := int(lo); i <= int(hi); i++ {
		b := byte(i)
		s[b/64] |= bit(b)
	}
	return s
}

// Or is the bytes of some sets.
func Or(l ...api.Set) api.Set {
	var s api.Set
	for _, t := range l {
		for i := range s {
			s[i] |= t[i]
		}
	}
	return s
}

// And is the bytes that are in all of some sets.
func And(l ...api.Set) api.Set {
	// All bytes to begin with: without a set there is none that a byte could be missing from.
	s := Not(api.Set{})
	for _, t := range l {
		for i := range s {
			s[i] &= t[i]
		}
	}
	return s
}

// Not is all other bytes.
func Not(s api.Set) api.Set {
	var n api.Set
	for i := range s {
		n[i] = ^s[i]
	}
	return n
}

// Has tells whether a byte is in a set.
func Has(s api.Set, b byte) bool {
	return s[b/64]&bit(b) != 0
}

// List is the bytes of a set, rising.
func List(s api.Set) []byte {
	var l []byte
	for i := range byteCount {
		if b := byte(i); Has(s, b) {
			l = append(l, b)
		}
	}
	return l
}

// Fold is the bytes of a set, and of its letters the others' case.
func Fold(s api.Set) api.Set {
	f := s
	for b := byte('a'); b <= 'z'; b++ {
		if Has(s, b) || Has(s, b-caseGap) {
			f = Or(f, Of(b, b-caseGap))
		}
	}
	return f
}

// Spans is a set as the least number of ranges.
func Spans(s api.Set) [][2]byte {
	var l [][2]byte
	for _, b := range List(s) {
		last := len(l) - 1
		if last >= 0 && l[last][1]+1 == b {
			l[last][1] = b
		} else {
			l = append(l, [2]byte{b, b})
		}
	}
	return l
}

// bit is the bit of a byte in its number of a set.
func bit(b byte) uint64 { return 1 << (b % 64) }
