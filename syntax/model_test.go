package syntax_test

import (
	"regexp"
	"strconv"

	"raddle/api"
)

// words says by the chapter's own words what a pattern is: without calls within each other, a frame for each open parenthesis.
type words struct {
	s      string
	at     int
	nodes  []api.Node
	frames []frame
	place  int
	wrong  api.Errno
}

// frame is the rows and the items of an alternative that have ended so far.
type frame struct{ rows, items []int }

const special = `|*+?{}()[].\/$^"`

var (
	wholeBounds = regexp.MustCompile(`^\{([0-9]+)(,?)([0-9]*)\}`)
	someBounds  = regexp.MustCompile(`^\{[0-9]+(,[0-9]*)?`)
	rightNumber = regexp.MustCompile(`^(0|[1-9][0-9]{0,5})$`)
	plainEscape = regexp.MustCompile(`^\\[|*+?{}()\[\].\\/$^"-]`)
	hexEscape   = regexp.MustCompile(`^\\x[0-9a-f][0-9a-f]`)
	shortHex    = regexp.MustCompile(`^\\x(?s:.?)$`)
	rightRef    = regexp.MustCompile(`^\{[A-Za-z_][A-Za-z_0-9]{0,31}\}`)
	someRef     = regexp.MustCompile(`^\{[^}]*\}`)
)

// parsed is what Parse must answer.
func parsed(s string) ([]api.Node, int, api.Errno) {
	if len(s) > 1024 {
		return nil, 0, api.ErrLong
	}
	w := &words{s: s, frames: make([]frame, 1)}
	for w.wrong == 0 && w.at < len(s) {
		w.step()
	}
	if w.wrong == 0 && len(w.frames) > 1 {
		w.fail(api.ErrEnd, len(s))
	}
	if w.wrong != 0 {
		return nil, w.place, w.wrong
	}
	w.endAlternative()
	if len(w.nodes) > 1024 {
		return nil, 0, api.ErrLong
	}
	return w.nodes, 0, api.OK
}

func (w *words) fail(e api.Errno, place int) { w.wrong, w.place = e, place }

func (w *words) top() *frame { return &w.frames[len(w.frames)-1] }

func (w *words) add(n api.Node) int {
	w.nodes = append(w.nodes, n)
	return len(w.nodes) - 1
}

func (w *words) put(kid int) { w.top().items = append(w.top().items, kid) }

func (w *words) endRow() {
	f := w.top()
	switch len(f.items) {
	case 0:
		f.rows = append(f.rows, w.add(empty()))
	case 1:
		f.rows = append(f.rows, f.items[0])
	default:
		f.rows = append(f.rows, w.add(cat(f.items...)))
	}
	f.items = nil
}

func (w *words) endAlternative() int {
	w.endRow()
	rows := w.top().rows
	w.frames = w.frames[:len(w.frames)-1]
	if len(rows) == 1 {
		return rows[0]
	}
	return w.add(alt(rows...))
}

// repeat is what a repetition makes of the item ahead of it.
func (w *words) repeat(lo, hi, length int) {
	f := w.top()
	last := len(f.items) - 1
	f.items[last] = w.add(rep(f.items[last], lo, hi))
	w.at += length
}

// step reads the next thing, of whatever kind.
func (w *words) step() {
	rest := w.s[w.at:]
	begins := len(w.top().items) == 0
	switch c := rest[0]; {
	case c == '|':
		w.endRow()
		w.at++
	case c == '(' && len(w.frames) > 64:
		w.fail(api.ErrDepth, w.at)
	case c == '(':
		w.frames = append(w.frames, frame{})
		w.at++
	case c == ')' && len(w.frames) > 1:
		w.put(w.endAlternative())
		w.at++
	case c == '*' && !begins:
		w.repeat(0, -1, 1)
	case c == '+' && !begins:
		w.repeat(1, -1, 1)
	case c == '?' && !begins:
		w.repeat(0, 1, 1)
	case someBounds.MatchString(rest) && !begins:
		w.bounds(rest)
	case someBounds.MatchString(rest):
		w.fail(api.ErrByte, w.at)
	case c == '{':
		w.ref(rest)
	case c == '[':
		w.class()
	default:
		w.single(rest)
	}
}

func (w *words) bounds(rest string) {
	m := wholeBounds.FindStringSubmatch(rest)
	if m == nil || m[2] == "" && m[3] != "" {
		w.fail(api.ErrByte, w.at+len(someBounds.FindString(rest)))
		if w.place == len(w.s) {
			w.wrong = api.ErrEnd
		}
		return
	}
	lo, err := strconv.Atoi(m[1])
	bad := err != nil || lo > 4096 || !rightNumber.MatchString(m[1])
	hi := -1
	if m[2] == "" {
		hi = lo
		bad = bad || lo == 0
	} else if m[3] != "" {
		hi, err = strconv.Atoi(m[3])
		bad = bad || err != nil || hi > 4096 || hi == 0 || hi < lo || !rightNumber.MatchString(m[3])
	}
	if bad {
		w.fail(api.ErrBounds, w.at)
		return
	}
	w.repeat(lo, hi, len(m[0]))
}

func (w *words) ref(rest string) {
	switch name := rightRef.FindString(rest); {
	case name != "":
		w.put(w.add(ref(name[1 : len(name)-1])))
		w.at += len(name)
	case someRef.MatchString(rest):
		w.fail(api.ErrByte, w.at+1)
	default:
		w.fail(api.ErrEnd, len(w.s))
	}
}

// single reads an atom that is one byte, one escape or a `.`, or that is none.
func (w *words) single(rest string) {
	switch c := rest[0]; {
	case c == '\\':
		if b, length := w.escape(w.at); length > 0 {
			w.put(w.add(bytes(func(x int) bool { return x == b })))
			w.at += length
		}
	case c == '.':
		w.put(w.add(bytes(func(x int) bool { return x != 10 })))
		w.at++
	case c == '/' || c == '$':
		w.fail(api.ErrTrail, w.at)
	case isSpecial(c):
		w.fail(api.ErrByte, w.at)
	default:
		w.put(w.add(one(c)))
		w.at++
	}
}

func isSpecial(c byte) bool {
	for i := range len(special) {
		if special[i] == c {
			return true
		}
	}
	return false
}

// escape is the byte of the escape at a place, and how long that is: 0, if it is none.
func (w *words) escape(at int) (b, length int) {
	rest := w.s[at:]
	named := map[string]int{`\n`: 10, `\t`: 9, `\r`: 13}
	switch {
	case len(rest) == 1 || shortHex.MatchString(rest):
		w.fail(api.ErrEnd, len(w.s))
		return 0, 0
	case named[rest[:2]] > 0:
		return named[rest[:2]], 2
	case plainEscape.MatchString(rest):
		return int(rest[1]), 2
	case hexEscape.MatchString(rest):
		n, _ := strconv.ParseInt(rest[2:4], 16, 0)
		return int(n), 4
	}
	w.fail(api.ErrEscape, at)
	return 0, 0
}

// class reads a class, and marks its bytes one by one.
func (w *words) class() {
	i := w.at + 1
	not := i < len(w.s) && w.s[i] == '^'
	if not {
		i++
	}
	var in [256]bool
	first := i
	for w.wrong == 0 {
		from := i
		if i < len(w.s) && w.s[i] == ']' && i > first {
			break
		}
		lo := w.member(&i)
		hi := lo
		if w.wrong == 0 && i < len(w.s) && w.s[i] == '-' {
			i++
			from = i
			hi = w.member(&i)
		}
		if w.wrong == 0 && hi < lo {
			w.fail(api.ErrClass, from)
		}
		for b := lo; w.wrong == 0 && b <= hi; b++ {
			in[b] = true
		}
	}
	if w.wrong != 0 {
		return
	}
	n := bytes(func(b int) bool { return in[b] != not })
	if n.S == (api.Set{}) {
		w.fail(api.ErrClass, i)
		return
	}
	w.put(w.add(n))
	w.at = i + 1
}

// member is the byte of a class at a place, which goes behind it.
func (w *words) member(i *int) int {
	if *i == len(w.s) {
		w.fail(api.ErrEnd, *i)
		return 0
	}
	switch c := w.s[*i]; c {
	case ']', '-', '^':
		w.fail(api.ErrClass, *i)
		return 0
	case '\\':
		b, length := w.escape(*i)
		*i += length
		return b
	default:
		*i++
		return int(c)
	}
}
