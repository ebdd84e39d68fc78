package print_test

import (
	"strings"

	"conch/api"
	"conch/word"
)

// writer makes commands and scripts by a rule that always goes the same way.
type writer struct {
	state  uint64
	odd    int    // how many of its commands have a fault, of 1000
	bodies string // texts in place that wait for the next Newline
}

// pick is a number from 0 to below n.
func (g *writer) pick(n int) int {
	g.state = g.state*6364136223846793005 + 1442695040888963407
	return int(g.state >> 33 % uint64(n))
}

// one is one of the texts.
func (g *writer) one(l ...string) string { return l[g.pick(len(l))] }

// goesWrong tells whether a fault is made.
func (g *writer) goesWrong() bool { return g.pick(1000) < g.odd }

// someWords are words' texts; none of them is a reserved one, nor a Let's.
var someWords = []string{"a", "b", "c1", "-x", "'if'", "'b c'", `"$x y"`, "$x", "${x:-'b'}", `"${x#"*"}"`, "$(c; d)", "$((1+2))", "''", "2", "in", `\)`, `'it'\''s'`, "'x\ny'", "*", "a=1", "\\#", "$", "i\\f", "$@$1", "~", "[a]"}

// word makes a word.
func (g *writer) word() api.Word {
	if g.goesWrong() {
		return [...]api.Word{nil, {{}}, {{Kind: api.Lit, Text: "#"}}, {{Kind: api.Lit, Text: "if"}}, {{Kind: api.Lit, Text: "a b"}}, {{Kind: api.Lit, Text: "x=1"}}, {{Kind: 7, Text: "a"}}, {{Kind: api.Lit, Text: "}"}}}[g.pick(8)]
	}
	return w(g.one(someWords...))
}

// words makes up to n of them, and at least some.
func (g *writer) words(least, n int) []api.Word {
	var l []api.Word
	for range least + g.pick(n-least+1) {
		l = append(l, g.word())
	}
	return l
}

// place makes a text in place.
func (g *writer) place() string {
	text := ""
	for range g.pick(4) {
		text += g.one("a", "E", "EE", "EEE", "", " E", "b c", "$x", "${y:-z}", "\\$", "'", `"`, "$(a)", "\tE", "\\\\") + "\n"
	}
	return text
}

// redir makes a redirection.
func (g *writer) redir() api.Redir {
	r := api.Redir{Fd: [...]int{0, 1, 2, 3, 10, 999}[g.pick(6)], Kind: api.In + g.pick(6)}
	if g.goesWrong() {
		r.Fd = [...]int{-1, 1000, 12345}[g.pick(3)]
	}
	switch {
	case r.Kind != api.Here:
		r.Word = g.word()
	case g.pick(2) == 0:
		r.Word = raw(0, g.place()).Word
	default:
		r.Word, _ = word.Here(g.place())
	}
	if r.Kind == api.Here && g.goesWrong() {
		r.Word = [...]api.Word{raw(0, "a").Word, raw(0, "a\nE").Word, w("$x"), {{}}, append(raw(0, "a\n").Word, raw(0, "b\n").Word...)}[g.pick(5)]
	}
	if g.goesWrong() {
		r.Kind = g.pick(9) - 1
	}
	return r
}

// redirs makes up to n of them.
func (g *writer) redirs(n int) []api.Redir {
	var l []api.Redir
	for range max(0, g.pick(n+5)-4) {
		l = append(l, g.redir())
	}
	return l
}

// simple makes a Simple.
func (g *writer) simple() api.Cmd {
	c := api.Cmd{Kind: api.Simple, Redirs: g.redirs(3)}
	for range max(0, g.pick(5)-2) {
		c.Lets = append(c.Lets, let(g.one("x", "_y", "if", "z1"), g.one("", "1", "'a b'", "$x", "a=b", "#")))
	}
	if len(c.Lets)+len(c.Redirs) == 0 || g.pick(3) > 0 {
		c.Words = append(g.words(1, 1)[:1:1], g.words(0, 3)...)
	}
	if len(c.Words) > 0 && len(c.Words[0]) == 1 && strings.HasPrefix(c.Words[0][0].Text, "a=") {
		c.Words[0] = w("a")
	}
	return c
}

// list makes what may stand in another command.
func (g *writer) list(deep int) api.Cmd {
	l := []api.Cmd{g.andOr(deep)}
	for range max(0, g.pick(5)-2) {
		l = append(l, g.andOr(deep))
	}
	if len(l) == 1 && !g.goesWrong() {
		return l[0]
	}
	return of(api.Seq, l...)
}

// andOr makes an and-or list.
func (g *writer) andOr(deep int) api.Cmd {
	c := g.pipeline(deep)
	for range max(0, g.pick(8)-5) {
		c = of(api.And+g.pick(2), c, g.pipeline(deep))
	}
	if g.goesWrong() {
		c = of(api.And+g.pick(2), g.pipeline(deep), c)
	}
	return c
}

// pipeline makes a pipeline.
func (g *writer) pipeline(deep int) api.Cmd {
	c := api.Cmd{Kind: api.Pipe, Not: g.pick(5) == 0, Cmds: []api.Cmd{g.command(deep)}}
	for range max(0, g.pick(8)-5) {
		c.Cmds = append(c.Cmds, g.command(deep))
	}
	if len(c.Cmds) == 1 && !c.Not && !g.goesWrong() {
		return c.Cmds[0]
	}
	return c
}

// command makes a command, with others within it at most deep ones; now and then one with a fault.
func (g *writer) command(deep int) api.Cmd {
	var c api.Cmd
	switch kind := g.pick(5); {
	case deep == 0 || kind < 2:
		c = g.simple()
	case kind == 2:
		c = function(g.one("f", "_g1", "in"), g.compound(deep-1))
		c.Redirs = g.redirs(2)
	default:
		c = g.compound(deep - 1)
		c.Redirs = g.redirs(2)
	}
	if g.goesWrong() {
		g.spoil(&c, deep)
	}
	return c
}

// spoil makes a fault in a command, or another command of it.
func (g *writer) spoil(c *api.Cmd, deep int) {
	switch g.pick(9) {
	case 0:
		c.Kind = g.pick(16) - 1
	case 1:
		c.Not = !c.Not
	case 2:
		c.Every = !c.Every
	case 3:
		c.Name = g.one("", "f", "if", "1", "a b", "f() { a; }; g")
	case 4:
		c.Cmds = append(c.Cmds, g.list(max(0, deep-1)))
	case 5:
		if len(c.Cmds) > 0 {
			c.Cmds = c.Cmds[1:]
		}
	case 6:
		c.Words = append(c.Words, g.word())
	case 7:
		c.Redirs = append(c.Redirs, g.redir())
	case 8:
		c.Items = append(c.Items, api.Item{Words: g.words(0, 2), Body: many(g.pick(3))})
	}
}

// compound makes a command that is neither a Simple nor a Func, without Redirs.
func (g *writer) compound(deep int) api.Cmd {
	kind := api.Group + g.pick(api.Case-api.Group+1)
	switch kind {
	case api.If:
		c := of(kind, g.list(deep), g.list(deep))
		switch g.pick(4) {
		case 0:
			c.Cmds = append(c.Cmds, g.list(deep))
		case 1:
			third := g.compound(deep)
			third.Redirs = g.redirs(1)
			c.Cmds = append(c.Cmds, third)
		case 2:
			c.Cmds = append(c.Cmds, of(api.If, g.list(deep), g.list(deep)))
		}
		return c
	case api.While, api.Until:
		return of(kind, g.list(deep), g.list(deep))
	case api.For:
		if g.pick(3) == 0 {
			return every(g.one("x", "_", "in", "do"), g.list(deep))
		}
		c := each(g.one("x", "_", "in", "do"), g.list(deep))
		c.Words = g.words(0, 3)
		return c
	case api.Case:
		c := choice(g.one(someWords...))
		for range g.pick(4) {
			i := api.Item{Words: g.words(1, 3)}
			if g.pick(4) > 0 {
				i.Body = []api.Cmd{g.list(deep)}
			}
			c.Items = append(c.Items, i)
		}
		return c
	}
	return of(kind, g.list(deep))
}
