package print_test

import "strings"

// The functions of this file write scripts, with blanks and Newlines here and there.

// gap writes Newlines, or none.
func (g *writer) gap() string {
	if g.pick(4) > 0 {
		return ""
	}
	return g.newline()
}

// newline writes a Newline, and the texts in place that wait for it.
func (g *writer) newline() string {
	text := g.one("", "", " ", " # fi ) 'x") + "\n" + g.bodies
	g.bodies = ""
	return text
}

// end writes an end.
func (g *writer) end() string {
	if g.pick(2) == 0 {
		return g.one(";", " ; ") + g.gap()
	}
	return g.newline() + g.gap()
}

// wordText writes a Word that may stand anywhere.
func (g *writer) wordText() string {
	if g.pick(8) == 0 {
		return g.one("x\\=1", "'#'", `""`, `"a$x'b"`, "${x%%'b c'*}", `"${x:+"a b"}"`, `$(a "b c")`, `$((1+$x))`, `"$@"`, "\\'", "'\n'", "$(a <<E\nb\nE\n)", "a\\ b", "$'a'", "\"\\a\\$\"")
	}
	return g.one(someWords...)
}

// placeText has a text in place wait, and writes what announces it.
func (g *writer) placeText() string {
	end, ahead := g.one("E", "F", "EE"), ""
	op := g.one("<<", "<<-")
	if op == "<<-" {
		ahead = g.one("", "\t", "\t\t")
	}
	quoted := g.pick(3) == 0
	for range g.pick(4) {
		line := g.one("a", "E", "F", "EE", "EEE", "", " E", "$x b", "'", `"$x"`, ")", "${x-a}", "fi")
		if line != end {
			g.bodies += ahead + line + "\n"
		}
	}
	g.bodies += ahead + end + "\n"
	if quoted {
		return op + g.one("'"+end+"'", `\`+end, `"`+end+`"`)
	}
	return op + g.one("", " ") + end
}

// redirText writes a redirection.
func (g *writer) redirText() string {
	fd := g.one("", "", "0", "2", "03", "999")
	if g.pick(4) == 0 {
		return " " + fd + g.placeText()
	}
	return " " + fd + g.one("<", ">", ">>", "<>", "<&", ">&") + g.one("", " ") + g.wordText()
}

// redirTexts writes up to n of them.
func (g *writer) redirTexts(n int) string {
	text := ""
	for range max(0, g.pick(n+5)-4) {
		text += g.redirText()
	}
	return text
}

// simpleText writes a Simple.
func (g *writer) simpleText() string {
	text := g.redirTexts(1)
	for range max(0, g.pick(5)-3) {
		text += " " + g.one("x", "_y", "if") + "=" + g.one("", "1", "'a b'", "$x", "#") + g.redirTexts(1)
	}
	if text == "" || g.pick(2) == 0 {
		first := g.wordText()
		if text != "" {
			first = g.one("if", "{", "}", "!", "fi", first)
		}
		text += " " + first
		for range g.pick(3) {
			text += g.redirTexts(1) + " " + g.one("if", "fi", "}", "a=1", g.wordText(), g.wordText())
		}
	}
	return text + g.redirTexts(1)
}

// listText writes a list within another command, with an end behind it.
func (g *writer) listText(deep int) string {
	text := g.gap() + g.andOrText(deep)
	for range max(0, g.pick(5)-3) {
		text += g.end() + g.andOrText(deep)
	}
	return text + g.end()
}

// andOrText writes an and-or list.
func (g *writer) andOrText(deep int) string {
	text := g.pipelineText(deep)
	for range max(0, g.pick(8)-6) {
		text += g.one("&&", " || ", "||") + g.gap() + g.pipelineText(deep)
	}
	return text
}

// pipelineText writes a pipeline.
func (g *writer) pipelineText(deep int) string {
	text := g.one("", "", "", "", " ! ") + g.commandText(deep)
	for range max(0, g.pick(8)-6) {
		text += g.one("|", " | ") + g.gap() + g.commandText(deep)
	}
	return text
}

// commandText writes a command.
func (g *writer) commandText(deep int) string {
	kind := g.pick(6)
	switch {
	case deep == 0 || kind < 3:
		return g.simpleText()
	case kind == 3:
		return " " + g.one("f", "in") + g.one("()", " ( ) ") + g.gap() + g.compoundText(deep-1) + g.redirTexts(2)
	}
	return g.compoundText(deep-1) + g.redirTexts(2)
}

// compoundText writes a command that is neither a Simple nor a Func, without Redirs.
func (g *writer) compoundText(deep int) string {
	switch g.pick(6) {
	case 0:
		return " (" + strings.TrimSuffix(g.listText(deep), ";") + ")"
	case 1:
		return " { " + g.listText(deep) + "}"
	case 2:
		text := " if " + g.listText(deep) + "then " + g.listText(deep)
		for range max(0, g.pick(5)-3) {
			text += "elif " + g.listText(deep) + "then " + g.listText(deep)
		}
		if g.pick(3) == 0 {
			text += "else " + g.listText(deep)
		}
		return text + "fi"
	case 3:
		return g.one(" while ", " until ") + g.listText(deep) + "do " + g.listText(deep) + "done"
	case 4:
		text := " for " + g.one("i", "in", "do")
		switch g.pick(3) {
		case 0:
			text += ";" + g.gap() + " "
		case 1:
			text += g.gap() + " "
		default:
			text += g.gap() + " in"
			for range g.pick(3) {
				text += " " + g.wordText()
			}
			text += g.end()
		}
		return text + "do " + g.listText(deep) + "done"
	}
	return g.choiceText(deep)
}

// choiceText writes a Case.
func (g *writer) choiceText(deep int) string {
	text := " case " + g.wordText() + g.gap() + " in " + g.gap()
	for range g.pick(3) {
		text += g.one(" (", " ") + g.wordText()
		for range max(0, g.pick(4)-2) {
			text += g.one("|", " | ") + g.wordText()
		}
		text += ")"
		if g.pick(4) > 0 {
			text += strings.TrimSuffix(g.listText(deep), ";")
		}
		text += g.gap() + " ;;" + g.gap()
	}
	return text + " esac"
}

// script writes lines.
func (g *writer) script(lines, deep int) string {
	g.bodies = ""
	text := g.gap()
	for range lines {
		text += g.andOrText(deep)
		for range max(0, g.pick(5)-3) {
			text += g.one(";", " ; ") + g.andOrText(deep)
		}
		text += g.one("", ";") + g.newline() + g.gap()
	}
	return text
}

// spoilt is a script with a piece of it missing, or with one twice, or somewhere else.
func (g *writer) spoilt(script string) string {
	if script == "" {
		return ""
	}
	from := g.pick(len(script))
	to := min(len(script), from+1+g.pick(5))
	piece, at := script[from:to], g.pick(len(script))
	switch g.pick(3) {
	case 0:
		return script[:from] + script[to:]
	case 1:
		return script[:at] + piece + script[at:]
	}
	return script[:from] + g.one(" ", ";", "\n", "a", "|", "'", `"`, "$x", "(", ")", "#", "\\") + script[to:]
}
