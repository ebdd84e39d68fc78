package lex

import (
	"strings"

	"conch/api"
)

// inPlace is a text in place that is named, and stands behind the next Newline.
type inPlace struct {
	op   *Token
	end  string // its end line
	tabs bool   // bytes 9 at the front of its lines are dropped
}

// await has a text in place wait that a Word names, if an Op for it stands directly ahead of that.
func (l *lexer) await(word string) {
	if len(l.tokens) == 0 {
		return
	}
	// Only an Op has such a text: a < within a Word stands in another thing.
	op := l.tokens[len(l.tokens)-1]
	if op.Text != "<<" && op.Text != "<<-" {
		return
	}
	op.Raw = strings.ContainsAny(word, `\'"`)
	l.waiting = append(l.waiting, &inPlace{op: op, end: endLine(word), tabs: op.Text == "<<-"})
}

// endLine is a Word's text without its quotes.
func endLine(word string) string {
	var end []byte
	inside := false
	for word != "" {
		front, rest := word[0], word[1:]
		switch {
		case front == '\\' && rest != "":
			end = append(end, unescaped(rest[0], inside)...)
			rest = rest[1:]
		case front == '"':
			inside = !inside
		case front == '\'' && !inside && strings.Contains(rest, "'"):
			between, behind, _ := strings.Cut(rest, "'")
			end, rest = append(end, between...), behind
		default:
			end = append(end, front)
		}
		word = rest
	}
	return string(end)
}

// unescaped is what a \ and the byte behind it come to, inside of double quotes or outside.
func unescaped(c byte, inside bool) []byte {
	switch {
	case c == '\n':
		return nil
	case inside && strings.IndexByte("$\"\\`", c) < 0:
		return []byte{'\\', c}
	}
	return []byte{c}
}

// newline reads a Newline, and behind it the texts in place that wait for it.
func (l *lexer) newline() {
	begin := l.at
	l.at++
	for _, w := range l.waiting {
		l.takeUp(w)
	}
	if l.fault != api.OK {
		return
	}
	l.waiting = nil
	l.add(Newline, "\n", begin)
}

// takeUp reads a text in place up to its end line, and that.
func (l *lexer) takeUp(w *inPlace) {
	var body strings.Builder
	for l.more() {
		line := l.line()
		if w.tabs {
			line = strings.TrimLeft(line, "\t")
		}
		if line == w.end {
			w.op.Body = body.String()
			return
		}
		body.WriteString(line + "\n")
	}
	l.fail(api.ErrHere, w.op.At)
}

// line reads a line, and the byte 10 behind it, which the text's last one may lack.
func (l *lexer) line() string {
	line, _, _ := strings.Cut(l.text[l.at:], "\n")
	l.at = min(l.at+len(line)+len("\n"), len(l.text))
	return line
}
