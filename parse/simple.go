package parse

import (
	"strings"

	"conch/api"
	"conch/chars"
	"conch/lex"
	"conch/word"
)

// maxFd is the greatest number that a redirection may have.
const maxFd = 999

// signs are the Ops of redirections.
var signs = [...]struct {
	op   string
	kind int
	fd   int // where no number is ahead
}{
	{"<", api.In, 0}, {">", api.Out, 1}, {">>", api.More, 1}, {"<>", api.Both, 0},
	{"<&", api.Dup, 0}, {">&", api.Dup, 1}, {"<<", api.Here, 0}, {"<<-", api.Here, 0},
}

// simple reads a Simple.
func (p *parser) simple() api.Cmd {
	c := api.Cmd{Kind: api.Simple}
	if !p.seesWord() && !p.seesRedirection() {
		p.misfit()
		return c
	}
	for {
		switch {
		case p.seesRedirection():
			c.Redirs = append(c.Redirs, p.redirection())
		case len(c.Words) == 0 && letName(p.next().Text) != "":
			c.Lets = append(c.Lets, p.let())
		case p.seesWord():
			c.Words = append(c.Words, p.word())
		default:
			return c
		}
	}
}

// letName is the name that stands at the front of a Let's text, ahead of a =; nothing, if it is none.
func letName(text string) string {
	n := chars.Front(text)
	if !strings.HasPrefix(text[n:], "=") {
		return ""
	}
	return text[:n]
}

// let reads a Let.
func (p *parser) let() api.Let {
	t := p.take()
	name := letName(t.Text)
	return api.Let{Name: name, Word: p.parts(word.Parse, t.Text[len(name+"="):], t.At)}
}

// seesRedirection tells whether a redirection is next.
func (p *parser) seesRedirection() bool {
	if p.next().Kind == lex.Io {
		return true
	}
	for _, s := range signs {
		if p.sees(s.op) {
			return true
		}
	}
	return false
}

// redirections reads all redirections that stand there.
func (p *parser) redirections() []api.Redir {
	var l []api.Redir
	for p.seesRedirection() {
		l = append(l, p.redirection())
	}
	return l
}

// redirection reads one.
func (p *parser) redirection() api.Redir {
	numbered := p.next().Kind == lex.Io
	fd := 0
	if numbered {
		fd = p.number()
	}
	op := p.take()
	r := redirectionOf(op.Text)
	if numbered {
		r.Fd = fd
	}
	if r.Kind == api.Here {
		r.Word = p.inPlace(op)
	} else {
		r.Word = p.word()
	}
	return r
}

// redirectionOf is one of an Op, without a Word.
func redirectionOf(op string) api.Redir {
	for _, s := range signs {
		if s.op == op {
			return api.Redir{Fd: s.fd, Kind: s.kind}
		}
	}
	return api.Redir{}
}

// number reads an Io.
func (p *parser) number() int {
	io := p.take()
	n, e := chars.Number(io.Text, maxFd)
	if e != api.OK {
		p.fail(fault{e, io.At})
	}
	return n
}

// inPlace reads the Word that names an end line, as the text in place of the Op ahead of it.
func (p *parser) inPlace(op lex.Token) api.Word {
	p.wantWord()
	if op.Raw {
		return api.Word{{Kind: api.Lit, Text: op.Body, Quote: true}}
	}
	return p.parts(word.Here, op.Body, op.At)
}
