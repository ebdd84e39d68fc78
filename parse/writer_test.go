package parse_test

import (
	"strconv"
	"strings"

	"conch/api"
	"conch/chars"
	"conch/word"
)

// writer makes scripts, with the commands that they have, by a rule that always goes the same way.
type writer struct {
	state  uint64
	text   strings.Builder
	last   string // the token that was written
	bodies string // texts in place that wait for the next Newline
}

// pick is a number from 0 to below n.
func (w *writer) pick(n int) int {
	w.state = w.state*6364136223846793005 + 1442695040888963407
	return int(w.state >> 33 % uint64(n))
}

// one is one of the texts.
func (w *writer) one(l ...string) string { return l[w.pick(len(l))] }

// write writes a text as it is.
func (w *writer) write(s string) { w.text.WriteString(s) }

// put writes tokens, with blanks ahead of them, but now and then none where that makes no other token.
func (w *writer) put(tokens ...string) {
	for _, t := range tokens {
		// A Digit ahead of a < would make an Io.
		behindWord := !isSign(w.last) && !chars.Digit(w.last[len(w.last)-1]) && isSign(t)
		behindSign := isSign(w.last) && !isSign(t) && t[0] != '-'
		if !(behindWord || behindSign) || w.pick(2) == 0 {
			w.write(w.one(" ", " ", "\t", "  ", " \\\n"))
		}
		w.write(t)
		w.last = t
	}
}

// isSign tells whether a token is an Op.
func isSign(t string) bool { return strings.Contains("|&;<>()", t[:1]) }

// newline writes a Newline, now and then with a remark ahead of it, and the texts in place that wait for it.
func (w *writer) newline() {
	w.write(w.one("", "", "", " ", " # fi ) 'x"))
	w.write("\n" + w.bodies)
	w.bodies = ""
	w.last = "\n"
}

// gap writes a gap.
func (w *writer) gap() {
	for range max(0, w.pick(6)-3) {
		w.newline()
	}
}

// end writes an end.
func (w *writer) end() {
	if w.pick(2) == 0 {
		w.put(";")
	} else {
		w.newline()
	}
	w.gap()
}

// word writes a Word, one of many, and is what word.Parse makes of it.
func (w *writer) word(l ...string) api.Word {
	text := w.one(l...)
	w.put(text)
	parts, _ := word.Parse(text)
	return parts
}

// anyWords are Words; reserved ones are like others.
var anyWords = append(strings.Fields(`a b c1 -x 'f' "$x" $y ${x:-'b'} $(c;d) $((1+2)) a=1 x= 2 in \) ""`), reserved...)

// firstWords are those that a Simple may begin with.
var firstWords = strings.Fields(`a b c -x 'if' "$x" $y in =1 {a }b i\f $(c) 2`)

// redirection writes one.
func (w *writer) redirection() api.Redir {
	var r api.Redir
	kind := w.pick(8)
	r.Kind = []int{api.In, api.Out, api.More, api.Both, api.Dup, api.Dup, api.Here, api.Here}[kind]
	r.Fd = []int{0, 1, 1, 0, 0, 1, 0, 0}[kind]
	op := []string{"<", ">", ">>", "<>", "<&", ">&", "<<", "<<-"}[kind]
	if w.pick(3) == 0 {
		r.Fd = w.pick(1000)
		io := w.one("", "", "00") + strconv.Itoa(r.Fd)
		w.write(" " + io + op)
		w.last = op
	} else {
		w.put(op)
	}
	if r.Kind == api.Here {
		r.Word = w.inPlace(op == "<<-")
	} else {
		r.Word = w.word(anyWords...)
	}
	return r
}

// inPlace writes an end line, and has the text in place wait.
func (w *writer) inPlace(tabs bool) api.Word {
	ahead := ""
	if tabs {
		ahead = w.one("", "\t", "\t\t")
	}
	body := ""
	for range w.pick(3) {
		line := w.one("a", "$x", " fi", "", "${y:-z} \\$", ")", "'", "EE") + "\n"
		body += line
		w.bodies += ahead + line
	}
	w.bodies += ahead + "E\n"
	if w.pick(3) == 0 {
		w.put(w.one("'E'", `\E`, `"E"`, `E''`))
		return api.Word{{Kind: api.Lit, Text: body, Quote: true}}
	}
	w.put("E")
	parts, _ := word.Here(body)
	return parts
}

// redirections writes up to n of them.
func (w *writer) redirections(n int) []api.Redir {
	var l []api.Redir
	for range max(0, w.pick(n+4)-3) {
		l = append(l, w.redirection())
	}
	return l
}

// simple writes a Simple.
func (w *writer) simple() api.Cmd {
	c := api.Cmd{Kind: api.Simple, Redirs: w.redirections(2)}
	for range max(0, w.pick(4)-1) {
		name, text := w.one("x", "_y", "if", "z1"), w.one("", "1", "'a b'", "$x", "a=b", "${x#y}")
		w.put(name + "=" + text)
		parts, _ := word.Parse(text)
		c.Lets = append(c.Lets, api.Let{Name: name, Word: parts})
		c.Redirs = append(c.Redirs, w.redirections(1)...)
	}
	ahead := len(c.Lets)+len(c.Redirs) > 0
	switch {
	case !ahead:
		c.Words = append(c.Words, w.word(firstWords...))
	case w.pick(3) > 0:
		c.Words = append(c.Words, w.word(append([]string{"if", "{", "fi", "!", "}", "case"}, firstWords...)...))
	default:
		return c
	}
	for range w.pick(3) {
		c.Redirs = append(c.Redirs, w.redirections(1)...)
		c.Words = append(c.Words, w.word(anyWords...))
	}
	c.Redirs = append(c.Redirs, w.redirections(2)...)
	return c
}

// opensWords tells whether a reserved word behind a command would be one of its Words.
func opensWords(c api.Cmd) bool {
	switch c.Kind {
	case api.Simple:
		return true
	case api.Pipe, api.And, api.Or, api.Seq:
		return opensWords(c.Cmds[len(c.Cmds)-1])
	}
	return false
}

// sequence is what a line or a list of commands is.
func sequence(l []api.Cmd) api.Cmd {
	if len(l) == 1 {
		return l[0]
	}
	return api.Cmd{Kind: api.Seq, Cmds: l}
}

// list writes a list, and the token behind it.
func (w *writer) list(deep int, behind string) api.Cmd {
	w.gap()
	l := []api.Cmd{w.andOr(deep)}
	for range max(0, w.pick(5)-2) {
		w.end()
		l = append(l, w.andOr(deep))
	}
	if behind != ")" && behind != ";;" && opensWords(l[len(l)-1]) || w.pick(2) == 0 {
		w.end()
	}
	w.put(behind)
	return sequence(l)
}

// andOr writes an and-or list.
func (w *writer) andOr(deep int) api.Cmd {
	c := w.pipeline(deep)
	for range max(0, w.pick(8)-5) {
		kind := w.pick(2)
		w.put([]string{"&&", "||"}[kind])
		w.gap()
		c = api.Cmd{Kind: api.And + kind, Cmds: []api.Cmd{c, w.pipeline(deep)}}
	}
	return c
}

// pipeline writes a pipeline.
func (w *writer) pipeline(deep int) api.Cmd {
	c := api.Cmd{Kind: api.Pipe, Not: w.pick(5) == 0}
	if c.Not {
		w.put("!")
	}
	c.Cmds = append(c.Cmds, w.command(deep))
	for range max(0, w.pick(8)-5) {
		w.put("|")
		w.gap()
		c.Cmds = append(c.Cmds, w.command(deep))
	}
	if len(c.Cmds) == 1 && !c.Not {
		return c.Cmds[0]
	}
	return c
}

// command writes a command, with others within it at most deep ones.
func (w *writer) command(deep int) api.Cmd {
	kind := w.pick(5)
	switch {
	case deep == 0 || kind < 2:
		return w.simple()
	case kind == 2:
		name := w.one("f", "_g1", "in")
		w.put(name, "(", ")")
		w.gap()
		c := w.compound(deep - 1)
		redirs := c.Redirs
		c.Redirs = nil
		return api.Cmd{Kind: api.Func, Name: name, Cmds: []api.Cmd{c}, Redirs: redirs}
	}
	return w.compound(deep - 1)
}

// compound writes a command that is neither a Simple nor a Func, with its redirections.
func (w *writer) compound(deep int) api.Cmd {
	var c api.Cmd
	switch w.pick(7) {
	case 0:
		w.put("(")
		c = api.Cmd{Kind: api.Subshell, Cmds: []api.Cmd{w.list(deep, ")")}}
	case 1:
		w.put("{")
		c = api.Cmd{Kind: api.Group, Cmds: []api.Cmd{w.list(deep, "}")}}
	case 2:
		w.put("if")
		c = w.branches(deep)
	case 3, 4:
		kind := w.pick(2)
		w.put([]string{"while", "until"}[kind])
		condition := w.list(deep, "do")
		c = api.Cmd{Kind: api.While + kind, Cmds: []api.Cmd{condition, w.list(deep, "done")}}
	case 5:
		c = w.each(deep)
	case 6:
		c = w.choice(deep)
	}
	c.Redirs = w.redirections(2)
	return c
}

// branches writes an If behind its if or elif.
func (w *writer) branches(deep int) api.Cmd {
	condition := w.list(deep, "then")
	next := w.one("fi", "else", "elif")
	c := api.Cmd{Kind: api.If, Cmds: []api.Cmd{condition, w.list(deep, next)}}
	switch next {
	case "else":
		c.Cmds = append(c.Cmds, w.list(deep, "fi"))
	case "elif":
		c.Cmds = append(c.Cmds, w.branches(deep))
	}
	return c
}

// each writes a For.
func (w *writer) each(deep int) api.Cmd {
	c := api.Cmd{Kind: api.For, Name: w.one("x", "_", "in", "do", "a1")}
	w.put("for", c.Name)
	switch w.pick(3) {
	case 0:
		w.put(";")
		w.gap()
		c.Every = true
	case 1:
		w.gap()
		c.Every = true
	case 2:
		w.gap()
		w.put("in")
		for range w.pick(4) {
			c.Words = append(c.Words, w.word(anyWords...))
		}
		w.end()
	}
	w.put("do")
	c.Cmds = []api.Cmd{w.list(deep, "done")}
	return c
}

// choice writes a Case.
func (w *writer) choice(deep int) api.Cmd {
	c := api.Cmd{Kind: api.Case}
	w.put("case")
	c.Words = []api.Word{w.word(anyWords...)}
	w.gap()
	w.put("in")
	w.gap()
	for range w.pick(4) {
		closing := w.one(";;", ";;", "esac")
		c.Items = append(c.Items, w.item(deep, closing))
		if closing == "esac" {
			return c
		}
		w.gap()
	}
	w.put("esac")
	return c
}

// item writes an item of a Case, and the token behind it.
func (w *writer) item(deep int, behind string) api.Item {
	var i api.Item
	first := firstWords
	if w.pick(2) == 0 {
		w.put("(")
		first = anyWords
	}
	i.Words = append(i.Words, w.word(first...))
	for range max(0, w.pick(4)-1) {
		w.put("|")
		i.Words = append(i.Words, w.word(anyWords...))
	}
	w.put(")")
	if w.pick(4) == 0 {
		w.gap()
		w.put(behind)
		return i
	}
	i.Body = []api.Cmd{w.list(deep, behind)}
	return i
}

// line writes a line, but not its Newline.
func (w *writer) line(deep int) api.Cmd {
	l := []api.Cmd{w.andOr(deep)}
	for range max(0, w.pick(4)-1) {
		w.put(";")
		l = append(l, w.andOr(deep))
	}
	if w.pick(3) == 0 {
		w.put(";")
	}
	return sequence(l)
}

// script is a script, and its commands.
func (w *writer) script(lines, deep int) (string, []api.Cmd) {
	w.text.Reset()
	w.last = "\n"
	var l []api.Cmd
	w.gap()
	for i := range lines {
		l = append(l, w.line(deep))
		if i < lines-1 || w.bodies != "" || w.pick(2) == 0 {
			w.newline()
			w.gap()
		}
	}
	return w.text.String(), l
}
