package parse

import (
	"conch/api"
	"conch/lex"
	"conch/word"
)

// newline is the Text of a Newline.
const newline = "\n"

// fault is an error, and its place.
type fault struct {
	e  api.Errno
	at int
}

// is tells whether there is one.
func (f fault) is() bool { return f.e != api.OK }

// parser goes through a script's tokens, up to what is found wrong first.
type parser struct {
	tokens []lex.Token                        // those that are left
	begins map[string]func(p *parser) api.Cmd // what begins with a token of that Text
	deep   int                                // how many commands stand around what is read that others may stand in
	size   int                                // of the script
	broken fault                              // what the tokens end with
	wrong  fault
}

// fail keeps what is found wrong first. Then no tokens are left, so that all that is being read comes to its end.
func (p *parser) fail(f fault) {
	if !p.wrong.is() {
		p.wrong = f
		p.tokens = nil
	}
}

// misfit blames the next token, which doesn't fit; or, if none is left, what the tokens end with.
func (p *parser) misfit() {
	switch {
	case p.more():
		p.fail(fault{api.ErrSyntax, p.next().At})
	case p.broken.is():
		p.fail(p.broken)
	default:
		p.fail(fault{api.ErrSyntax, p.size})
	}
}

// more tells whether a token is left.
func (p *parser) more() bool { return len(p.tokens) > 0 }

// next is the next token; one of no Kind and no Text, if none is left.
func (p *parser) next() lex.Token {
	if !p.more() {
		return lex.Token{}
	}
	return p.tokens[0]
}

// take passes over the next token, and answers it.
func (p *parser) take() lex.Token {
	t := p.next()
	if p.more() {
		p.tokens = p.tokens[1:]
	}
	return t
}

// sees tells whether the next token has one of the texts.
// Its Kind need not be asked for: no two Kinds have a Text in common, but Words and Ios, and the latter are Digits alone.
func (p *parser) sees(texts ...string) bool {
	next := p.next()
	for _, text := range texts {
		if next.Text == text {
			return true
		}
	}
	return false
}

// skip passes over the next token, if it has that text, and tells whether it has.
func (p *parser) skip(text string) bool {
	if !p.sees(text) {
		return false
	}
	p.take()
	return true
}

// want passes over the next token, which must have that text.
func (p *parser) want(text string) {
	if !p.skip(text) {
		p.misfit()
	}
}

// gap passes over Newlines.
func (p *parser) gap() {
	for p.skip(newline) {
	}
}

// end passes over an end, if one is next, and tells whether one is.
func (p *parser) end() bool {
	if !p.skip(";") && !p.skip(newline) {
		return false
	}
	p.gap()
	return true
}

// seesWord tells whether a Word is next.
func (p *parser) seesWord() bool { return p.next().Kind == lex.Word }

// wantWord passes over the next token, which must be a Word, and answers it.
func (p *parser) wantWord() lex.Token {
	if !p.seesWord() {
		p.misfit()
	}
	return p.take()
}

// word reads a Word.
func (p *parser) word() api.Word {
	t := p.wantWord()
	return p.parts(word.Parse, t.Text, t.At)
}

// parts are those that are read of a text; what is wrong in it is wrong at a place.
func (p *parser) parts(read func(text string) (api.Word, api.Errno), text string, at int) api.Word {
	w, e := read(text)
	if e != api.OK {
		p.fail(fault{e, at})
	}
	return w
}
