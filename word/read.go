package word

import (
	"strings"

	"conch/api"
	"conch/chars"
	"conch/lex"
)

// way is one of the six ways to read a text.
type way int

const (
	plain way = iota
	inBrace
	inQuotes
	inQuotedBrace
	quotedPattern
	inPlace
)

// Bytes ahead of which a \ is dropped where all is quoted, and put where that is written.
const (
	quotesEscape = "$\"\\`"
	braceEscapes = quotesEscape + "}"
	placeEscapes = "$\\`"
)

// rules say how the ways differ.
var rules = [...]struct {
	single  bool   // a ' begins single quotes, and a brace is no quoted one
	double  bool   // a " begins double quotes
	quoted  bool   // all is quoted
	escapes string // where all is quoted
}{
	plain:         {single: true, double: true},
	inBrace:       {single: true, double: true},
	inQuotes:      {quoted: true, escapes: quotesEscape},
	inQuotedBrace: {double: true, quoted: true, escapes: braceEscapes},
	quotedPattern: {double: true},
	inPlace:       {quoted: true, escapes: placeEscapes},
}

// within is the way to read the Word of a brace that stands in this way.
func (w way) within(op int) way {
	switch {
	case rules[w].single:
		return inBrace
	case op >= api.Front:
		return quotedPattern
	}
	return inQuotedBrace
}

// list is parts, one behind the other.
type list struct {
	parts api.Word
	bytes []byte // of the last part, if that is a Lit: others may be added to them
}

// add adds a part; the bytes of a Lit go to the part ahead, if that is such a Lit, too.
func (l *list) add(p api.Part) {
	if !l.goesOn(p) {
		l.settle()
		l.parts = append(l.parts, p)
	}
	if p.Kind == api.Lit {
		l.bytes = append(l.bytes, p.Text...)
	}
}

// goesOn tells whether a part is more of the last one.
func (l *list) goesOn(p api.Part) bool {
	if len(l.parts) == 0 || p.Kind != api.Lit {
		return false
	}
	last := l.parts[len(l.parts)-1]
	return last.Kind == api.Lit && last.Quote == p.Quote
}

// settle gives the last part its bytes, if it is a Lit.
func (l *list) settle() {
	if n := len(l.parts); n > 0 && l.parts[n-1].Kind == api.Lit {
		l.parts[n-1].Text = string(l.bytes)
	}
	l.bytes = nil
}

// lit is bytes as a part.
func lit(text string, quoted bool) api.Part {
	return api.Part{Kind: api.Lit, Text: text, Quote: quoted}
}

// word is the parts of a text.
func (w way) word(text string) (api.Word, api.Errno) {
	var l list
	if e := w.read(text, l.add); e != api.OK {
		return nil, e
	}
	l.settle()
	return l.parts, api.OK
}

// read goes through a text, thing by thing, up to what is found wrong first.
func (w way) read(text string, add func(p api.Part)) api.Errno {
	for text != "" {
		n, e := w.thing(text, add)
		if e != api.OK {
			return e
		}
		text = text[n:]
	}
	return api.OK
}

// piece is how many bytes the thing at the front of a text has.
func (w way) piece(text string) (int, api.Errno) {
	r := rules[w]
	// Of a quoted brace's things double quotes alone are none of those in quotes.
	quoted := !r.single && !(r.double && text[0] == '"')
	n, _, e := lex.Piece(text, 0, quoted)
	return n, e
}

// thing reads the one at the front of a text, and tells how many bytes that took.
func (w way) thing(text string, add func(p api.Part)) (int, api.Errno) {
	n, e := w.piece(text)
	if e != api.OK {
		return 0, e
	}
	// A quote that is a byte, and a $ that begins neither a brace nor a run, are things of one byte.
	alone := n == 1
	switch front := text[0]; {
	case front == '\\':
		w.pair(text[1:n], add)
	case front == '\'' && !alone:
		add(lit(text[1:n-1], true))
	case front == '"' && !alone:
		e = doubleQuotes(text[1:n-1], add)
	case front == '$' && alone:
		n += w.short(text[1:], add)
	case front == '$':
		e = w.long(text[1:n], add)
	case w == plain && chars.Meta(front):
		e = api.ErrSyntax
	default:
		add(lit(text[:1], rules[w].quoted))
	}
	return n, e
}

// pair reads what stands behind a \, a byte or nothing.
func (w way) pair(behind string, add func(p api.Part)) {
	r := rules[w]
	switch {
	case behind == "\n":
	case behind == "":
		add(lit(`\`, true))
	case r.quoted && !strings.Contains(r.escapes, behind):
		add(lit(`\`+behind, true))
	default:
		add(lit(behind, true))
	}
}

// doubleQuotes reads what stands between them.
func doubleQuotes(inside string, add func(p api.Part)) api.Errno {
	word, e := inQuotes.word(inside)
	if e != api.OK {
		return e
	}
	if len(word) == 0 {
		// Nothing in quotes is not nothing: it may be a field of its own.
		add(lit("", true))
	}
	for _, p := range word {
		add(p)
	}
	return api.OK
}
