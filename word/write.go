package word

import (
	"strings"

	"conch/api"
	"conch/chars"
)

// pen is a way to write: it says what becomes of what is quoted.
type pen struct {
	lit    func(text string) string // a Lit
	mark   string                   // stands on each side of another part
	within func(p api.Part) pen     // writes the Word of a part, quoted or not
}

// plainPen writes Plain, and In a brace, which is the same.
func plainPen() pen { return pen{lit: chars.Quote, mark: `"`, within: plainWithin} }

// patternPen writes As a quoted pattern.
func patternPen() pen { return pen{lit: doubleQuoted, mark: `"`, within: quotedWithin} }

// quotedPen writes In a quoted brace.
func quotedPen() pen { return pen{lit: braceQuoted, within: quotedWithin} }

// placePen writes In place.
func placePen() pen { return pen{lit: placeQuoted, within: quotedWithin} }

// plainWithin is the pen for the Word of a part that is written Plain, or In a brace.
func plainWithin(p api.Part) pen {
	if p.Quote {
		return quotedWithin(p)
	}
	return plainPen()
}

// quotedWithin is the pen for the Word of a part whose brace is a quoted one.
func quotedWithin(p api.Part) pen {
	if p.Op >= api.Front {
		return patternPen()
	}
	return quotedPen()
}

// doubleQuoted is bytes in double quotes.
func doubleQuoted(text string) string { return `"` + escaped(text, quotesEscape) + `"` }

// braceQuoted is bytes in a quoted brace, where nothing would be no part.
func braceQuoted(text string) string {
	if text == "" {
		return `""`
	}
	return escaped(text, braceEscapes)
}

// placeQuoted is bytes in place.
func placeQuoted(text string) string { return escaped(text, placeEscapes) }

// escaped is a text with a \ ahead of each of some bytes.
func escaped(text, bytes string) string {
	var out []byte
	for i := range len(text) {
		if strings.IndexByte(bytes, text[i]) >= 0 {
			out = append(out, '\\')
		}
		out = append(out, text[i])
	}
	return string(out)
}

// page is what is written so far.
type page struct{ text []byte }

// put writes texts, one behind the other.
func (g *page) put(texts ...string) {
	for _, t := range texts {
		g.text = append(g.text, t...)
	}
}

// word writes a word, part by part.
func (g *page) word(w api.Word, with pen) {
	for _, p := range w {
		// What is longer than a text may be is refused, whatever stands behind it.
		if len(g.text) > api.MaxText {
			return
		}
		g.part(p, with)
	}
}

// part writes a part.
func (g *page) part(p api.Part, with pen) {
	switch {
	case p.Kind != api.Lit && p.Quote:
		g.put(with.mark)
		g.dollar(p, with)
		g.put(with.mark)
	case p.Kind != api.Lit:
		g.dollar(p, with)
	case p.Quote:
		g.put(with.lit(p.Text))
	default:
		g.put(p.Text)
	}
}

// dollar writes what begins with a $.
func (g *page) dollar(p api.Part, with pen) {
	switch p.Kind {
	case api.Var:
		g.brace(p, with)
	case api.Run:
		g.put("$(", p.Text, ")")
	case api.Sum:
		g.put("$((", p.Text, "))")
	}
}

// brace writes a Var.
func (g *page) brace(p api.Part, with pen) {
	if p.Op < api.Plain || p.Op > api.Backs {
		return
	}
	g.put("${")
	if p.Op == api.Length {
		g.put("#")
	}
	g.put(p.Text)
	if p.Colon {
		g.put(":")
	}
	g.put(sign(p.Op))
	if p.Op >= api.Default {
		g.word(p.Word, with.within(p))
	}
	g.put("}")
}

// sign is an Op's; nothing, if it has none behind the parameter.
func sign(op int) string {
	for _, s := range signs {
		if s.op == op {
			return s.sign
		}
	}
	return ""
}
