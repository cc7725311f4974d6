package trim

import (
	"slices"

	"raddle/api"
)

// What marks the beginning, and a Move that goes to no state, other than any number of counts does.
const (
	isFirst = 255
	nowhere = 255
)

// dealer deals states to groups, at first all to one: those of a group are alike as far as is told yet.
type dealer struct {
	from  [][]arrival  // of each state
	group []int        // of each state its group's number
	left  stack[[]int] // states by which others are to be told apart yet: by what goes to one of them, and what does not
}

// part is those of a group that are marked in the same way.
type part struct {
	group int
	mark  string
}

// deal parts each group by a mark that each state has. Groups are numbered anew, by rising states.
func (d *dealer) deal(marks []string) {
	place := map[part]int{} // in parts
	var parts [][]int
	for s, g := range d.group {
		p := part{g, marks[s]}
		n, ok := place[p]
		if !ok {
			n = len(parts)
			place[p] = n
			parts = append(parts, nil)
		}
		parts[n] = append(parts[n], s)
	}
	d.leave(parts)
	for n, states := range parts {
		for _, s := range states {
			d.group[s] = n
		}
	}
}

// leave leaves to do what the parts of groups tell: those of each group but its greatest one, since what goes to the group, and to none of the others, goes to that. (At first the group is all states, and looks tell what goes to one of them.)
func (d *dealer) leave(parts [][]int) {
	greatest := map[int]int{}
	for n, states := range parts {
		g := d.group[states[0]]
		if other, ok := greatest[g]; !ok || len(states) > len(parts[other]) {
			greatest[g] = n
		}
	}
	for n, states := range parts {
		if greatest[d.group[states[0]]] != n {
			d.left.put(states)
		}
	}
}

// goers marks each state by the ways that lead from it to some states.
func (d *dealer) goers(to []int) []string {
	ways := make([][]int, len(d.group))
	for _, s := range to {
		for _, c := range d.from[s] {
			ways[c.from] = append(ways[c.from], c.way)
		}
	}
	marks := make([]string, len(ways))
	for s, l := range ways {
		slices.Sort(l)
		marks[s] = string(numbers(nil, l))
	}
	return marks
}

// looks marks each state by what is seen without a look at the states that it goes to.
func looks(states []api.State) []string {
	marks := make([]string, len(states))
	for s, state := range states {
		var mark []byte
		if s == beginning {
			mark = append(mark, isFirst)
		}
		mark = append(mark, byte(len(state.R)))
		mark = numbers(mark, state.R)
		mark = numbers(mark, state.Rule)
		for _, moves := range state.Next {
			for _, m := range moves {
				if m.To == noState {
					mark = append(mark, nowhere)
					continue
				}
				mark = append(mark, byte(len(m.Ops)))
				mark = append(mark, m.Ops...)
			}
		}
		marks[s] = string(mark)
	}
	return marks
}

// numbers puts numbers of two bytes behind a mark.
func numbers(mark []byte, l []int) []byte {
	for _, n := range l {
		mark = append(mark, byte(n>>8), byte(n))
	}
	return mark
}
