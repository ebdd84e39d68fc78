package print

import (
	"conch/api"
	"conch/word"
)

// page is what is written of a command so far.
type page struct {
	line    []byte
	places  []byte // the texts in place, which stand behind the line
	count   int    // how many commands are written
	refused bool   // the command can't be written: nothing more is
}

// text is all of it.
func (g *page) text() string {
	if len(g.places) == 0 {
		return string(g.line)
	}
	return string(g.line) + newline + string(g.places)
}

// refuse says that the command can't be written.
func (g *page) refuse() { g.refused = true }

// put writes texts into the line.
func (g *page) put(texts ...string) { g.add(&g.line, texts) }

// putPlace writes texts behind the line.
func (g *page) putPlace(texts ...string) { g.add(&g.places, texts) }

// add puts texts behind others. What is longer than a script may be is parsed as nothing, so it need not be gone on with;
// thereby commands that stand within themselves come to an end, too.
func (g *page) add(to *[]byte, texts []string) {
	for _, t := range texts {
		if len(*to)+len(t) > api.MaxText {
			g.refuse()
		}
		if g.refused {
			return
		}
		*to = append(*to, t...)
	}
}

// series writes things of any kind, one behind the other; write says how one is written.
func series[T any](write func(thing T), things ...T) {
	for _, t := range things {
		write(t)
	}
}

// parts makes what is called ahead of each of several things, so that a text stands between each two.
func (g *page) parts(by string) func() {
	first := true
	return func() {
		if !first {
			g.put(by)
		}
		first = false
	}
}

// words writes words, a text between each two.
func (g *page) words(by string, l []api.Word) {
	part := g.parts(by)
	series(func(w api.Word) {
		part()
		g.word(w)
	}, l...)
}

// commands writes commands, a text between each two.
func (g *page) commands(by string, l []api.Cmd) {
	part := g.parts(by)
	series(func(c api.Cmd) {
		part()
		g.command(c)
	}, l...)
}

// word writes a word.
func (g *page) word(w api.Word) { g.put(g.printed(word.Print, w)) }

// printed is the text of a word.
func (g *page) printed(write func(w api.Word) (string, api.Errno), w api.Word) string {
	// A long list of words is not printed in vain.
	if g.refused {
		return ""
	}
	text, e := write(w)
	if e != api.OK {
		g.refuse()
	}
	return text
}
