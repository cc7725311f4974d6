package syntax

import (
	"strings"

	"raddle/api"
)

// reader goes through the bytes of a pattern, and keeps what is wrong with them, and where.
type reader struct {
	text  string
	at    int
	wrong api.Errno
	place int
}

// fail keeps what is wrong; its false is for the caller to hand on.
func (r *reader) fail(e api.Errno, place int) bool {
	r.wrong, r.place = e, place
	return false
}

// failHere is fail at the byte that comes next: the end has an error of its own.
func (r *reader) failHere(e api.Errno) bool {
	if r.ended() {
		e = api.ErrEnd
	}
	return r.fail(e, r.at)
}

func (r *reader) ended() bool { return r.at == len(r.text) }

// next is the byte that comes next, which is read by that; the end must not be there.
func (r *reader) next() byte {
	b := r.text[r.at]
	r.at++
	return b
}

// sees tells whether one of some bytes comes next.
func (r *reader) sees(these string) bool {
	return !r.ended() && strings.IndexByte(these, r.text[r.at]) >= 0
}

// takes reads the byte b, if it comes next.
func (r *reader) takes(b byte) bool {
	if r.ended() || r.text[r.at] != b {
		return false
	}
	r.at++
	return true
}

// seesBounds tells whether a `{` and a digit come next: a `{` without one begins a name.
func (r *reader) seesBounds() bool {
	return r.sees("{") && r.at+1 < len(r.text) && isDigit(r.text[r.at+1])
}

// digits reads as many digits as there are.
func (r *reader) digits() string {
	from := r.at
	for !r.ended() && isDigit(r.text[r.at]) {
		r.at++
	}
	return r.text[from:r.at]
}

// upTo reads what stands ahead of the first b, and that b.
func (r *reader) upTo(b byte) (string, bool) {
	length := strings.IndexByte(r.text[r.at:], b)
	if length < 0 {
		return "", r.fail(api.ErrEnd, len(r.text))
	}
	from := r.at
	r.at += length + 1
	return r.text[from : from+length], true
}

// escape reads a `\` and what stands behind it.
func (r *reader) escape() (byte, bool) {
	from := r.at
	r.at++
	if r.ended() {
		return 0, r.fail(api.ErrEnd, r.at)
	}
	switch b := r.next(); b {
	case 'n':
		return '\n', true
	case 't':
		return '\t', true
	case 'r':
		return '\r', true
	case 'x':
		return r.hex(from)
	default:
		if strings.IndexByte(marks+"-", b) >= 0 {
			return b, true
		}
	}
	return 0, r.fail(api.ErrEscape, from)
}

// hex reads the two digits of an escape that began at from.
func (r *reader) hex(from int) (byte, bool) {
	const digits = "0123456789abcdef"
	if len(r.text)-r.at < 2 {
		return 0, r.fail(api.ErrEnd, len(r.text))
	}
	high := strings.IndexByte(digits, r.next())
	low := strings.IndexByte(digits, r.next())
	if high < 0 || low < 0 {
		return 0, r.fail(api.ErrEscape, from)
	}
	return byte(high*16 + low), true
}
