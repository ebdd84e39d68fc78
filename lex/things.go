package lex

import (
	"strings"

	"conch/api"
)

// place is what a thing stands in: it tells which bytes begin more than a byte alone there.
type place int

const (
	inWord place = iota
	inQuotes
	inBrace
	inQuotedBrace
	inBracket
)

// brace is the place within a brace that stands here.
func (p place) brace() place {
	if p == inQuotes || p == inQuotedBrace {
		return inQuotedBrace
	}
	return inBrace
}

// single tells whether a ' begins single quotes here.
func (p place) single() bool { return p != inQuotes && p != inQuotedBrace }

// depths counts the double quotes, braces and brackets that stand around what is read.
type depths struct{ deep int }

// enter goes into one more of them, and tells whether it may.
func (d *depths) enter() bool {
	if d.deep == api.MaxDeep {
		return false
	}
	d.deep++
	return true
}

// leave goes out of the innermost one.
func (d *depths) leave() { d.deep-- }

// reader goes through a text, thing by thing, up to what is found wrong first.
type reader struct {
	depths
	text  string
	at    int
	fault api.Errno
	blame int
}

// fail keeps what is found wrong first: what stands around it does not end either, and says so behind it.
func (r *reader) fail(e api.Errno, blame int) {
	if r.fault == api.OK {
		r.fault, r.blame = e, blame
	}
}

// more tells whether there is a byte to be read.
func (r *reader) more() bool { return r.fault == api.OK && r.at < len(r.text) }

// sees tells whether a part stands where the reader is.
func (r *reader) sees(part string) bool { return strings.HasPrefix(r.text[r.at:], part) }

// thing reads the thing that begins where the reader is.
func (r *reader) thing(in place) {
	switch {
	case r.sees(`\`):
		r.at = min(r.at+2, len(r.text))
	case r.sees(`"`) && in != inQuotes:
		r.around(`"`, inQuotes, '"')
	case r.sees("'") && in.single():
		r.singleQuotes()
	case r.sees("${"):
		r.around("${", in.brace(), '}')
	case r.sees("$("):
		// A run's $ is not counted, and never to blame.
		r.at++
		r.around("(", inBracket, ')')
	case r.sees("(") && in == inBracket:
		r.around("(", inBracket, ')')
	case r.sees("`"):
		r.fail(api.ErrSyntax, r.at)
	default:
		r.at++
	}
}

// around reads what has things within it, up to the byte that ends it.
func (r *reader) around(opening string, within place, end byte) {
	begin := r.at
	if !r.enter() {
		r.fail(api.ErrBig, begin)
		return
	}
	r.at += len(opening)
	for r.more() && r.text[r.at] != end {
		r.thing(within)
	}
	if !r.more() {
		r.fail(api.ErrQuote, begin)
		return
	}
	r.at++
	r.leave()
}

// singleQuotes reads them: nothing in them is a thing.
func (r *reader) singleQuotes() {
	n := strings.IndexByte(r.text[r.at+1:], '\'')
	if n < 0 {
		r.fail(api.ErrQuote, r.at)
		return
	}
	r.at += n + len("''")
}
