package print

import (
	"slices"
	"strings"

	"conch/api"
	"conch/chars"
	"conch/word"
)

// signs are those of redirections, but of Here.
var signs = [...]string{api.In: "<", api.Out: ">", api.More: ">>", api.Both: "<>", api.Dup: ">&"}

// endByte is what end lines are made of.
const endByte = "E"

// redirection writes one.
func (g *page) redirection(r api.Redir) {
	g.put(chars.Text(r.Fd))
	switch r.Kind {
	case api.In, api.Out, api.More, api.Both, api.Dup:
		g.put(signs[r.Kind])
		g.word(r.Word)
	case api.Here:
		g.inPlace(r.Word)
	default:
		g.refuse()
	}
}

// redirections writes those that stand behind a command.
func (g *page) redirections(l []api.Redir) {
	series(func(r api.Redir) {
		g.put(" ")
		g.redirection(r)
	}, l...)
}

// inPlace writes a text in place, and the sign and the end line that announce it.
func (g *page) inPlace(w api.Word) {
	text := g.place(w)
	g.putPlace(text)
	// Of a text that is too long no end line is searched for.
	if g.refused {
		return
	}
	end := endLine(text)
	g.putPlace(end, newline)
	g.put("<<")
	if isRaw(w) {
		g.put(chars.Quote(end))
	} else {
		g.put(end)
	}
}

// place is a text in place, without its end line.
func (g *page) place(w api.Word) string {
	if isRaw(w) {
		return w[0].Text
	}
	return g.printed(word.PrintHere, w)
}

// isRaw tells whether a text in place stands as it is: there is nothing in it to be expanded.
func isRaw(w api.Word) bool { return len(w) == 1 && w[0].Kind == api.Lit && w[0].Quote }

// endLine is the shortest one that is no line of a text.
func endLine(text string) string {
	lines := strings.Split(text, newline)
	end := endByte
	for slices.Contains(lines, end) {
		end += endByte
	}
	return end
}
