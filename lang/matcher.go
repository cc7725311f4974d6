package lang

import (
	"raddle/api"
	"raddle/bset"
)

// manyWalks is how often a node is walked from many places at once, ahead of what is kept of single places.
const manyWalks = 256

// matcher finds where the nodes of a tree without names may end in a text.
//
// From many places at once a node is walked fastest. But repetitions within repetitions would walk it more often than anyone can wait for, so behind manyWalks times it is walked from each place once, and what that told is kept.
type matcher struct {
	tree  []api.Node
	text  string
	walks []int            // how often each node was walked from many places at once
	known []map[int]places // where each node may end from single places
}

func newMatcher(l []api.Node, w string) *matcher {
	return &matcher{tree: l, text: w, walks: make([]int, len(l)), known: make([]map[int]places, len(l))}
}

// ends is where a node may end from any of some places.
func (m *matcher) ends(node int, from places) places {
	if from.none() {
		return places{}
	}
	if m.walks[node] < manyWalks {
		m.walks[node]++
		return m.walk(m.tree[node], from)
	}
	var all places
	for _, place := range from.list() {
		all.join(m.endsFrom(node, place))
	}
	return all
}

// endsFrom is where a node may end from one place.
func (m *matcher) endsFrom(node, place int) places {
	if ends, there := m.known[node][place]; there {
		return ends
	}
	ends := m.walk(m.tree[node], only(place))
	if m.known[node] == nil {
		m.known[node] = map[int]places{}
	}
	m.known[node][place] = ends
	return ends
}

func (m *matcher) walk(n api.Node, from places) places {
	switch n.Op {
	case api.Bytes:
		return m.behind(n.S, from)
	case api.Cat:
		for _, kid := range n.L {
			from = m.ends(kid, from)
		}
		return from
	case api.Alt:
		var all places
		for _, kid := range n.L {
			all.join(m.ends(kid, from))
		}
		return all
	case api.Rep:
		return m.optional(n, m.needed(n, from))
	}
	return from
}

// behind is the places behind those at which there is a byte of a set.
func (m *matcher) behind(s api.Set, from places) places {
	var all places
	for _, place := range from.list() {
		if place < len(m.text) && bset.Has(s, m.text[place]) {
			all.put(place + 1)
		}
	}
	return all
}

// needed is where a repetition's kid may end behind as many times as there must be.
func (m *matcher) needed(n api.Node, from places) places {
	for range n.Lo {
		next := m.ends(n.L[0], from)
		if next.same(from) {
			// All further times tell the same.
			break
		}
		from = next
	}
	return from
}

// optional is where a repetition may end behind the times that there may be beside those that must be.
func (m *matcher) optional(n api.Node, from places) places {
	times := n.Hi - n.Lo
	if n.Hi < 0 {
		// More times than there are places find no new one.
		times = len(m.text)
	}
	all, fresh := from.copied(), from
	for range times {
		// Who was there fewer times ago went on from there already.
		fresh = m.ends(n.L[0], fresh).without(all)
		if fresh.none() {
			break
		}
		all.join(fresh)
	}
	return all
}
