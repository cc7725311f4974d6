package syntax

import (
	"strconv"
	"strings"

	"raddle/api"
	"raddle/bset"
)

// marks are the bytes that do not stand for themselves in a pattern.
const marks = `|*+?{}()[].\/$^"`

// endless is the greatest number of a repetition that has none.
const endless = -1

// maxDigits is how many digits a number of bounds has at most.
const maxDigits = 6

// parser keeps what is read so far: the nodes that have ended, and how many parentheses are open.
type parser struct {
	reader
	nodes []api.Node
	depth int
}

// add puts one more node behind the others, and tells its place.
func (p *parser) add(n api.Node) int {
	p.nodes = append(p.nodes, n)
	return len(p.nodes) - 1
}

// join is a node of some kids; one kid needs none.
func (p *parser) join(op uint8, kids []int) int {
	if len(kids) == 1 {
		return kids[0]
	}
	return p.add(api.Node{Op: op, L: kids})
}

// whole reads all of the pattern.
func (p *parser) whole() bool {
	if _, ok := p.alternative(); !ok {
		return false
	}
	// Ahead of the end an alternative stops at a `)` alone.
	if !p.ended() {
		return p.fail(api.ErrByte, p.at)
	}
	return true
}

func (p *parser) alternative() (int, bool) {
	var rows []int
	for {
		row, ok := p.row()
		if !ok {
			return 0, false
		}
		rows = append(rows, row)
		if !p.takes('|') {
			return p.join(api.Alt, rows), true
		}
	}
}

func (p *parser) row() (int, bool) {
	var items []int
	for !p.ended() && !p.sees("|)") {
		item, ok := p.item()
		if !ok {
			return 0, false
		}
		items = append(items, item)
	}
	if len(items) == 0 {
		return p.add(api.Node{Op: api.Empty}), true
	}
	return p.join(api.Cat, items), true
}

func (p *parser) item() (int, bool) {
	item, ok := p.atom()
	for ok && (p.sees("*+?") || p.seesBounds()) {
		var lo, hi int
		if lo, hi, ok = p.repetition(); ok {
			item = p.add(api.Node{Op: api.Rep, L: []int{item}, Lo: lo, Hi: hi})
		}
	}
	return item, ok
}

// repetition reads how often what stands ahead of it is repeated.
func (p *parser) repetition() (lo, hi int, ok bool) {
	switch p.next() {
	case '*':
		return 0, endless, true
	case '+':
		return 1, endless, true
	case '?':
		return 0, 1, true
	}
	return p.bounds(p.at - 1)
}

// bounds reads what stands behind the `{` at from.
func (p *parser) bounds(from int) (lo, hi int, ok bool) {
	least := p.digits()
	most := least
	if p.takes(',') {
		most = p.digits()
	}
	if !p.takes('}') {
		return 0, 0, p.failHere(api.ErrByte)
	}
	lo, hi = number(least), endless
	if most != "" {
		hi = number(most)
	}
	if !areBounds(lo, hi) {
		return 0, 0, p.fail(api.ErrBounds, from)
	}
	return lo, hi, true
}

// number is what digits tell; of digits that are no number more than bounds may have, since that is as wrong.
func number(digits string) int {
	n, err := strconv.Atoi(digits)
	if err != nil || len(digits) > maxDigits || len(digits) > 1 && digits[0] == '0' {
		return api.MaxCount + 1
	}
	return n
}

// atom reads an atom; the end must not be there.
func (p *parser) atom() (int, bool) {
	switch {
	case p.sees("("):
		return p.group()
	case p.sees("["):
		return p.class()
	case p.sees(`\`):
		b, ok := p.escape()
		return p.oneOf(bset.Of(b), ok)
	case p.sees("{") && !p.seesBounds():
		return p.ref()
	case p.takes('.'):
		return p.oneOf(bset.Not(bset.Of('\n')), true)
	case p.sees("/$"):
		return 0, p.fail(api.ErrTrail, p.at)
	case p.sees(marks):
		return 0, p.fail(api.ErrByte, p.at)
	}
	return p.oneOf(bset.Of(p.next()), true)
}

// oneOf is a node of a set's bytes, if that set was read.
func (p *parser) oneOf(s api.Set, ok bool) (int, bool) {
	if !ok {
		return 0, false
	}
	return p.add(api.Node{Op: api.Bytes, S: s}), true
}

// group reads an alternative in parentheses.
func (p *parser) group() (int, bool) {
	if p.depth == api.MaxDepth {
		return 0, p.fail(api.ErrDepth, p.at)
	}
	p.at++
	p.depth++
	inner, ok := p.alternative()
	if !ok {
		return 0, false
	}
	if !p.takes(')') {
		return 0, p.fail(api.ErrEnd, p.at)
	}
	p.depth--
	return inner, true
}

// ref reads a name in braces.
func (p *parser) ref() (int, bool) {
	p.at++
	from := p.at
	name, ok := p.upTo('}')
	if !ok {
		return 0, false
	}
	if !Name(name) {
		return 0, p.fail(api.ErrByte, from)
	}
	// A piece of the pattern would keep all of it.
	return p.add(api.Node{Op: api.Ref, Name: strings.Clone(name)}), true
}

// class reads bytes in brackets.
func (p *parser) class() (int, bool) {
	p.at++
	others := p.takes('^')
	set, ok := p.span()
	for ok && !p.sees("]") {
		var more api.Set
		more, ok = p.span()
		set = bset.Or(set, more)
	}
	if !ok {
		return 0, false
	}
	if others {
		set = bset.Not(set)
	}
	if set == (api.Set{}) {
		return 0, p.fail(api.ErrClass, p.at)
	}
	p.at++
	return p.oneOf(set, true)
}

// span reads a byte of a class, or two and what is between them.
func (p *parser) span() (api.Set, bool) {
	lo, ok := p.member()
	if !ok {
		return api.Set{}, false
	}
	if !p.takes('-') {
		return bset.Of(lo), true
	}
	from := p.at
	hi, ok := p.member()
	if !ok {
		return api.Set{}, false
	}
	if hi < lo {
		return api.Set{}, p.fail(api.ErrClass, from)
	}
	return bset.Range(lo, hi), true
}

// member reads one byte of a class.
func (p *parser) member() (byte, bool) {
	if p.ended() || p.sees("]-^") {
		return 0, p.failHere(api.ErrClass)
	}
	if p.sees(`\`) {
		return p.escape()
	}
	return p.next(), true
}
