package lex

import (
	"strings"

	"conch/api"
	"conch/chars"
)

// operators stand so that none is ahead of a longer one that begins with it.
var operators = [...]string{
	"<<-", "<<", "<&", "<>", "<", ">>", ">&", ">", "&&", "&", "||", "|", ";;", ";", "(", ")",
}

// operator is the longest one at the front of s; nothing, if there is none.
func operator(s string) string {
	for _, op := range operators {
		if strings.HasPrefix(s, op) {
			return op
		}
	}
	return ""
}

// lexer goes through a script, token by token.
// Tokens are pointers as long as it does: an Op << gets its text in place behind others.
type lexer struct {
	reader
	tokens  []*Token
	waiting []*inPlace
}

// found is the tokens, for the caller.
func (l *lexer) found() []Token {
	var found []Token
	for _, t := range l.tokens {
		found = append(found, *t)
	}
	return found
}

// skip passes over what stands ahead of a token.
func (l *lexer) skip() {
	for l.more() {
		switch {
		case chars.Blank(l.text[l.at]):
			l.at++
		case l.sees("\\\n"):
			l.at += len("\\\n")
		case l.sees("#"):
			// The byte 10 stays: it is a token.
			comment, _, _ := strings.Cut(l.text[l.at:], "\n")
			l.at += len(comment)
		default:
			return
		}
	}
}

// token reads the one that begins where the lexer is.
func (l *lexer) token() {
	op := operator(l.text[l.at:])
	switch {
	case l.sees("\n"):
		l.newline()
	case op != "":
		l.add(Op, op, l.at)
		l.at += len(op)
	default:
		l.word()
	}
}

// add makes a token.
func (l *lexer) add(kind int, text string, at int) {
	l.tokens = append(l.tokens, &Token{Kind: kind, Text: text, At: at})
}

// word reads a Word or an Io.
func (l *lexer) word() {
	begin := l.at
	for l.more() && !chars.Meta(l.text[l.at]) {
		l.thing(inWord)
	}
	if l.fault != api.OK {
		return
	}
	text := l.text[begin:l.at]
	if digits(text) && (l.sees("<") || l.sees(">")) {
		l.add(Io, text, begin)
		return
	}
	l.await(text)
	l.add(Word, text, begin)
}

// digits tells whether s has Digits alone.
func digits(s string) bool {
	for i := range len(s) {
		if !chars.Digit(s[i]) {
			return false
		}
	}
	return true
}
