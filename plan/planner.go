package plan

import "raddle/api"

// planner puts the nodes of a plan as they end.
//
// Each of its calls tells whether there was room. Where there is none, all of them end at once: repetitions within repetitions would write out more than anyone can wait for.
type planner struct {
	tree  []api.Node
	most  int // up to which bound repetitions are written out
	nodes []api.Node
	roots []int // the places in nodes of those that have no parent yet
}

// plan puts the plan of the node at a place of the tree.
func (p *planner) plan(place int) bool {
	n := p.tree[place]
	if n.Op == api.Rep {
		return p.repetition(n.L[0], n.Lo, n.Hi)
	}
	for _, kid := range n.L {
		if !p.plan(kid) {
			return false
		}
	}
	return p.put(n, len(n.L))
}

// repetition puts the plan of a node's repetition.
func (p *planner) repetition(kid, lo, hi int) bool {
	single := p.tree[kid].Op == api.Bytes
	switch {
	case single && hi > p.most && lo == 0:
		return p.empty() && p.repeat(kid, 1, hi) && p.join(api.Alt, 2)
	case single && hi > p.most:
		return p.repeat(kid, lo, hi)
	case single && hi == endless && lo > p.most:
		return p.repeat(kid, lo, lo) && p.repeat(kid, 0, endless) && p.join(api.Cat, 2)
	}
	return p.row(kid, lo, hi)
}

// row puts a repetition that is written out.
func (p *planner) row(kid, lo, hi int) bool {
	before := len(p.roots)
	for range lo {
		if !p.plan(kid) {
			return false
		}
	}
	if hi == endless && !p.repeat(kid, 0, endless) {
		return false
	}
	if hi > lo && !p.rest(kid, hi-lo) {
		return false
	}
	many := len(p.roots) - before
	return many == 1 || p.join(api.Cat, many)
}

// rest puts what may be there some times, or fewer, or not at all.
func (p *planner) rest(kid, times int) bool {
	if !p.empty() || !p.plan(kid) {
		return false
	}
	if times > 1 && !(p.rest(kid, times-1) && p.join(api.Cat, 2)) {
		return false
	}
	return p.join(api.Alt, 2)
}

// repeat puts a node's plan, and a repetition of it that stays one.
func (p *planner) repeat(kid, lo, hi int) bool {
	return p.plan(kid) && p.put(api.Node{Op: api.Rep, Lo: lo, Hi: hi}, 1)
}

func (p *planner) empty() bool { return p.put(api.Node{Op: api.Empty}, 0) }

func (p *planner) join(op uint8, kids int) bool { return p.put(api.Node{Op: op}, kids) }

// put puts a node: its kids are the last ones that have no parent yet.
func (p *planner) put(n api.Node, kids int) bool {
	if len(p.nodes) == api.MaxNodes {
		return false
	}
	rest := len(p.roots) - kids
	n.L = append([]int(nil), p.roots[rest:]...)
	p.roots = append(p.roots[:rest], len(p.nodes))
	p.nodes = append(p.nodes, n)
	return true
}
