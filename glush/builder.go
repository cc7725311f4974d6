package glush

import (
	"raddle/api"
	"raddle/norm"
)

// endless is the greatest number of a repetition that has none.
const endless = -1

// part is what a node is to those around it: which places may be first there, and last, rising, and whether it may be nothing.
type part struct {
	first, last []int
	nothing     bool
}

// builder puts the places of right plans, and which may follow which: of each place a row of all places.
type builder struct {
	places  []api.Pos
	follows [][api.MaxPos]bool
}

// add puts the places of one plan, and tells what its root is.
func (b *builder) add(l []api.Node, rule int) part {
	// Kids stand ahead of their parents, so of each node they are known when it comes.
	parts := make([]part, len(l))
	for i, n := range l {
		var kids []part
		for _, k := range n.L {
			kids = append(kids, parts[k])
		}
		parts[i] = b.take(n, rule, kids)
		parts[i].nothing = mayBeNothing(n, kids)
	}
	return parts[len(l)-1]
}

// take puts what a node has beyond its kids, and tells which places are first and last.
func (b *builder) take(n api.Node, rule int, kids []part) part {
	switch n.Op {
	case api.Bytes:
		return b.single(n.S, rule)
	case api.Cat:
		return b.row(kids...)
	case api.Alt:
		return oneOf(kids...)
	case api.Rep:
		return b.repeated(n, kids[0])
	}
	return part{}
}

// single puts the place of Bytes.
func (b *builder) single(s api.Set, rule int) part {
	p := len(b.places)
	b.places = append(b.places, api.Pos{S: s, Lo: 1, Hi: 1, Rule: rule})
	return part{first: []int{p}, last: []int{p}}
}

// repeated is a star, or what is counted: that takes the place that was put for its kid for its own.
func (b *builder) repeated(n api.Node, kid part) part {
	if n.Hi == endless {
		b.link(kid.last, kid.first)
		return kid
	}
	p := &b.places[kid.first[0]]
	p.Lo, p.Hi = n.Lo, n.Hi
	return kid
}

// row is parts one behind the other.
func (b *builder) row(kids ...part) part {
	var whole part
	ahead := true // whether all so far may be nothing
	for _, k := range kids {
		// The last places so far are those that one may be at where this part begins.
		b.link(whole.last, k.first)
		if ahead {
			whole.first = append(whole.first, k.first...)
		}
		ahead = ahead && k.nothing
		if !k.nothing {
			whole.last = nil
		}
		whole.last = append(whole.last, k.last...)
	}
	return whole
}

// oneOf is parts of which one is taken.
func oneOf(kids ...part) part {
	var whole part
	for _, k := range kids {
		whole.first = append(whole.first, k.first...)
		whole.last = append(whole.last, k.last...)
	}
	return whole
}

func (b *builder) link(last, first []int) {
	for _, from := range last {
		for _, to := range first {
			b.follows[from][to] = true
		}
	}
}

// next is which places may follow one, rising.
func (b *builder) next(place int) []int {
	var l []int
	for to := range b.places {
		if b.follows[place][to] {
			l = append(l, to)
		}
	}
	return l
}

// mayBeNothing asks layer 6 of a node with leaves in its kids' stead that may be nothing where these may: to ask it of all below each node anew would take long where plans are deep.
func mayBeNothing(n api.Node, kids []part) bool {
	// The list is a new one: the node's own is the plan's.
	n.L = nil
	var l []api.Node
	for i, k := range kids {
		l = append(l, leaf(k.nothing))
		n.L = append(n.L, i)
	}
	return norm.Nullable(append(l, n))
}

// leaf is a node without kids that may be nothing, or may not.
func leaf(nothing bool) api.Node {
	if nothing {
		return api.Node{Op: api.Empty}
	}
	return api.Node{Op: api.Bytes, S: api.Set{1}}
}
