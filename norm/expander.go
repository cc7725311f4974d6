package norm

import "raddle/api"

// expander puts the nodes of trees that are walked to one tree without names.
//
// A tree's nodes stand as they are walked, so a walk takes them one by one. The walks within each other are a list: there may be as many as names, and calls within calls would be too deep then.
type expander struct {
	trees map[string][]api.Node // what names stand for
	open  map[string]struct{}   // the names that are being walked
	walks []walk
	nodes []api.Node
	roots []int // the places in nodes of those that have no parent yet
}

// walk is the nodes that are yet to come of what a name stands for; no name: of the tree that was handed in.
type walk struct {
	name string
	rest []api.Node
}

// expand walks a tree, and all that its names stand for.
func (e *expander) expand(l []api.Node) api.Errno {
	e.walks = append(e.walks, walk{rest: l})
	for len(e.walks) > 0 {
		inner := &e.walks[len(e.walks)-1]
		if len(inner.rest) == 0 {
			e.leave()
			continue
		}
		n := inner.rest[0]
		inner.rest = inner.rest[1:]
		if errno := e.take(n); errno != api.OK {
			return errno
		}
	}
	return api.OK
}

func (e *expander) take(n api.Node) api.Errno {
	if n.Op == api.Ref {
		return e.enter(n.Name)
	}
	return e.put(n)
}

// enter begins to walk what a name stands for.
func (e *expander) enter(name string) api.Errno {
	tree, there := e.trees[name]
	if !there {
		return api.ErrName
	}
	if _, walked := e.open[name]; walked {
		return api.ErrCycle
	}
	e.open[name] = struct{}{}
	e.walks = append(e.walks, walk{name: name, rest: tree})
	return api.OK
}

// leave ends the innermost walk: its name may stand again behind it.
func (e *expander) leave() {
	last := len(e.walks) - 1
	delete(e.open, e.walks[last].name)
	e.walks = e.walks[:last]
}

// put puts a node to the result. Its kids are the last ones that have no parent there: of a name that is what it stands for, which leaves one node.
func (e *expander) put(n api.Node) api.Errno {
	if len(e.nodes) == api.MaxNodes {
		return api.ErrLong
	}
	rest := len(e.roots) - len(n.L)
	n.L = append([]int(nil), e.roots[rest:]...)
	e.roots = append(e.roots[:rest], len(e.nodes))
	e.nodes = append(e.nodes, n)
	return api.OK
}
