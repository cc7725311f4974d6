package print

import (
	"strconv"
	"strings"

	"raddle/api"
)

// endless is the greatest number of a repetition that has none.
const endless = -1

// printer writes nodes of a tree into one text: each kid's own text would be copied once for each node above it.
type printer struct {
	nodes []api.Node
	text  strings.Builder
}

func (p *printer) node(n api.Node) {
	switch n.Op {
	case api.Bytes:
		p.text.WriteString(Set(n.S))
	case api.Ref:
		p.text.WriteByte('{')
		p.text.WriteString(n.Name)
		p.text.WriteByte('}')
	case api.Rep:
		p.kids(n, "")
		p.text.WriteString(repetition(n.Lo, n.Hi))
	case api.Cat:
		p.kids(n, "")
	case api.Alt:
		p.kids(n, "|")
	}
}

func (p *printer) kids(n api.Node, between string) {
	for i, place := range n.L {
		if i > 0 {
			p.text.WriteString(between)
		}
		p.kid(p.nodes[place], n.Op)
	}
}

func (p *printer) kid(n api.Node, parent uint8) {
	if !enclosed(n.Op, parent) {
		p.node(n)
		return
	}
	p.text.WriteByte('(')
	p.node(n)
	p.text.WriteByte(')')
}

// enclosed tells whether a kid stands in parentheses: without them it would be read as a part of its parent, or not at all.
func enclosed(kid, parent uint8) bool {
	switch kid {
	case api.Empty, api.Cat:
		return parent != api.Alt
	case api.Alt:
		return true
	}
	return false
}

// repetition is what stands behind a thing that is repeated from lo to hi times.
func repetition(lo, hi int) string {
	least := strconv.Itoa(lo)
	switch {
	case lo == 0 && hi == endless:
		return "*"
	case lo == 1 && hi == endless:
		return "+"
	case lo == 0 && hi == 1:
		return "?"
	case lo == hi:
		return "{" + least + "}"
	case hi == endless:
		return "{" + least + ",}"
	}
	return "{" + least + "," + strconv.Itoa(hi) + "}"
}
