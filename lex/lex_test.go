package lex_test

import (
	"slices"
	"strings"
	"testing"

	"conch/api"
	"conch/lex"
)

// Tokens in short.

func word(text string, at int) lex.Token { return lex.Token{Kind: lex.Word, Text: text, At: at} }
func op(text string, at int) lex.Token   { return lex.Token{Kind: lex.Op, Text: text, At: at} }
func io(text string, at int) lex.Token   { return lex.Token{Kind: lex.Io, Text: text, At: at} }
func newline(at int) lex.Token           { return lex.Token{Kind: lex.Newline, Text: "\n", At: at} }

func here(text string, at int, body string) lex.Token {
	return lex.Token{Kind: lex.Op, Text: text, At: at, Body: body}
}

func raw(text string, at int, body string) lex.Token {
	return lex.Token{Kind: lex.Op, Text: text, At: at, Body: body, Raw: true}
}

// fault is an error, and the byte that is to blame.
type fault struct {
	e  api.Errno
	at int
}

// checkLex holds Lex against what is wanted.
func checkLex(t *testing.T, s string, f fault, want ...lex.Token) {
	t.Helper()
	if got, at, e := lex.Lex(s); !slices.Equal(got, want) || at != f.at || e != f.e {
		t.Errorf("Lex(%q): %v, %d, %v; want %v, %v", s, got, at, e, want, f)
	}
}

// fine is no error.
var fine = fault{}

// P4.2: the document's examples, and ordinary scripts.
func TestLexExamples(t *testing.T) {
	checkLex(t, "a 2>b # c", fine, word("a", 0), io("2", 2), op(">", 3), word("b", 4))
	checkLex(t, `x"a b"$(c d);;`, fine, word(`x"a b"$(c d)`, 0), op(";;", 12))
	checkLex(t, "a <<E\nb\nE\n", fine, word("a", 0), here("<<", 2, "b\n"), word("E", 4), newline(5))
	checkLex(t, "a 'b", fault{api.ErrQuote, 2}, word("a", 0))
	checkLex(t, "a <<E", fault{api.ErrHere, 2}, word("a", 0), op("<<", 2), word("E", 4))

	checkLex(t, "", fine)
	checkLex(t, " \t ", fine)
	checkLex(t, "a", fine, word("a", 0))
	checkLex(t, " a\tbc  d ", fine, word("a", 1), word("bc", 3), word("d", 7))
	checkLex(t, "a\n\n b\n", fine, word("a", 0), newline(1), newline(2), word("b", 4), newline(5))
	checkLex(t, "if a;then b&&c||d|e&fi", fine, word("if", 0), word("a", 3), op(";", 4), word("then", 5), word("b", 10),
		op("&&", 11), word("c", 13), op("||", 14), word("d", 16), op("|", 17), word("e", 18), op("&", 19), word("fi", 20))
	checkLex(t, "f(){ a;}", fine, word("f", 0), op("(", 1), op(")", 2), word("{", 3), word("a", 5), op(";", 6), word("}", 7))
	checkLex(t, `echo "a b"'c d'\ e${x:-f g}$((1 + 2))`, fine, word("echo", 0), word(`"a b"'c d'\ e${x:-f g}$((1 + 2))`, 5))
}

// P4.2: each Op alone, between words, and the longest one at its place.
func TestLexOps(t *testing.T) {
	for _, o := range documentOps {
		checkLex(t, o, fine, op(o, 0))
		checkLex(t, " "+o+" ", fine, op(o, 1))
		checkLex(t, "'a'"+o+o[:0]+"\n", fine, word("'a'", 0), op(o, 3), newline(3+len(o)))
		if o[:1] != "<" {
			checkLex(t, "a"+o+"b", fine, word("a", 0), op(o, 1), word("b", 1+len(o)))
		}
	}
	for s, want := range map[string]string{
		"<<<": "<< <", "<<-<": "<<- <", "<<--": "<<- -", "<<<<-": "<< <<-", "<&&": "<& &", "<&<": "<& <", "<>>": "<> >", "<><": "<> <",
		"<<>": "<< >", "<<&": "<< &", ">>>": ">> >", ">>&": ">> &", ">&&": ">& &", "><": "> <", ">>-": ">> -", "<-": "< -", ">-": "> -",
		"&&&": "&& &", "&&&&": "&& &&", "|||": "|| |", "|&": "| &", "&|": "& |", "&>": "& >", "&<": "& <", ";;;": ";; ;", ";&": "; &", ";;&": ";; &",
		"()": "( )", ")(": ") (", "((": "( (", "))": ") )", ");;": ") ;;", ">|": "> |", "<|": "< |", "<(": "< (", ">(": "> (", "|;": "| ;",
	} {
		got, _, _ := lex.Lex(s)
		var parts []string
		for _, k := range got {
			parts = append(parts, k.Text)
		}
		if strings.Join(parts, " ") != want {
			t.Errorf("Lex(%q): %q, want %q", s, parts, want)
		}
	}
}

// P4.2: what is passed over ahead of a token.
func TestLexPassedOver(t *testing.T) {
	checkLex(t, "\\\n", fine)
	checkLex(t, "\\\n\\\na", fine, word("a", 4))
	checkLex(t, " \\\n\t\\\n a", fine, word("a", 7))
	checkLex(t, "a \\\nb", fine, word("a", 0), word("b", 4))
	checkLex(t, ";\\\n;", fine, op(";", 0), op(";", 3))
	checkLex(t, "<\\\n<-", fine, op("<", 0), op("<", 3), word("-", 4))
	checkLex(t, "a\\\nb", fine, word("a\\\nb", 0))
	checkLex(t, "a\\\n b", fine, word("a\\\n", 0), word("b", 4))
	checkLex(t, "\\\n\n", fine, newline(2))
	checkLex(t, "\\ \\\n", fine, word("\\ \\\n", 0))
	checkLex(t, "\\\\\n", fine, word("\\\\", 0), newline(2))
	checkLex(t, "a\r\v\f\x00\xffb", fine, word("a\r\v\f\x00\xffb", 0))
	checkLex(t, `a\`, fine, word(`a\`, 0))
	checkLex(t, `a \`, fine, word("a", 0), word(`\`, 2))
}

// P4.2: a # at the front of a token, and within one.
func TestLexComments(t *testing.T) {
	checkLex(t, "#", fine)
	checkLex(t, "# a 'b `", fine)
	checkLex(t, "#a\nb", fine, newline(2), word("b", 3))
	checkLex(t, "a #b\\\nc", fine, word("a", 0), newline(5), word("c", 6))
	checkLex(t, "a#b #c", fine, word("a#b", 0))
	checkLex(t, "a#", fine, word("a#", 0))
	checkLex(t, "''#b", fine, word("''#b", 0))
	checkLex(t, `\#b`, fine, word(`\#b`, 0))
	checkLex(t, "${#a}#$#", fine, word("${#a}#$#", 0))
	checkLex(t, ";#b\n", fine, op(";", 0), newline(3))
	checkLex(t, "(#b)\n)", fine, op("(", 0), newline(4), op(")", 5))
	checkLex(t, "2>#b", fine, io("2", 0), op(">", 1))
	checkLex(t, "\\\n#b", fine)
	checkLex(t, "a\\\n#b", fine, word("a\\\n#b", 0))
	checkLex(t, "$(#)", fine, word("$(#)", 0))
	checkLex(t, "##\n##", fine, newline(2))
}

// P4.2: Digits alone are an Io directly ahead of a < or >, and a Word ahead of all else.
func TestLexIo(t *testing.T) {
	for _, digits := range []string{"0", "2", "9", "10", "007", "1234567890", strings.Repeat("9", 40)} {
		n := len(digits)
		for _, o := range documentOps {
			kind := lex.Word
			if o[0] == '<' || o[0] == '>' {
				kind = lex.Io
			}
			checkLex(t, digits+o, fine, lex.Token{Kind: kind, Text: digits}, op(o, n))
			checkLex(t, digits+" "+o, fine, word(digits, 0), op(o, n+1))
			checkLex(t, digits+"\\\n"+o, fine, word(digits+"\\\n", 0), op(o, n+2))
			checkLex(t, "a"+digits+o, fine, word("a"+digits, 0), op(o, n+1))
			checkLex(t, digits+"a"+o, fine, word(digits+"a", 0), op(o, n+1))
			checkLex(t, `"`+digits+`"`+o, fine, word(`"`+digits+`"`, 0), op(o, n+2))
			checkLex(t, "-"+digits+o, fine, word("-"+digits, 0), op(o, n+1))
		}
		checkLex(t, digits, fine, word(digits, 0))
		checkLex(t, digits+"\n>", fine, word(digits, 0), newline(n), op(">", n+1))
		checkLex(t, digits+"#>", fine, word(digits+"#", 0), op(">", n+1))
	}
	checkLex(t, ">>2>&1", fine, op(">>", 0), io("2", 2), op(">&", 3), word("1", 5))
	checkLex(t, ":<", fine, word(":", 0), op("<", 1))
	checkLex(t, "/<", fine, word("/", 0), op("<", 1))
}

// P4.2: words end ahead of each Meta byte, and at no other.
func TestLexWords(t *testing.T) {
	for c := range 256 {
		s := "a" + string([]byte{byte(c)}) + "b"
		got, _, e := lex.Lex(s)
		switch {
		case strings.IndexByte(" \t\n|&;<>()", byte(c)) >= 0:
			if e != api.OK || got[0] != word("a", 0) || got[len(got)-1] != word("b", 2) {
				t.Errorf("%q: %v, %v", s, got, e)
			}
		case c == '\'' || c == '"' || c == '`':
			if e == api.OK || len(got) != 0 {
				t.Errorf("%q: %v, %v", s, got, e)
			}
		default:
			checkLex(t, s, fine, word(s, 0))
		}
		quoted := "'" + string([]byte{byte(c)}) + "'"
		if c != '\'' {
			checkLex(t, "a"+quoted+"b", fine, word("a"+quoted+"b", 0))
		}
		pair := `a\` + string([]byte{byte(c)}) + "b"
		checkLex(t, pair, fine, word(pair, 0))
	}
	for _, w := range []string{
		"'a\nb'", `"a|b;c"`, "${x- <>()&}", "$(a; b | c)", "$((1<2))", "a$(b \")\" ')' \\))c", `\;\|\<`, "$", "a$", "$x$", "a=$(b)", "{}", "${x-${y-'}'}}",
	} {
		checkLex(t, w, fine, word(w, 0))
		checkLex(t, w+";"+w+" ", fine, word(w, 0), op(";", len(w)), word(w, len(w)+1))
	}
	checkLex(t, "$a(b)", fine, word("$a", 0), op("(", 2), word("b", 3), op(")", 4))
	checkLex(t, "a(", fine, word("a", 0), op("(", 1))
}

// P4.2: a text of 4096 bytes may be, one of 4097 not, whatever is in it.
func TestLexBig(t *testing.T) {
	a := strings.Repeat("a", 4096)
	checkLex(t, a, fine, word(a, 0))
	checkLex(t, strings.Repeat(" ", 4095)+"a", fine, word("a", 4095))
	checkLex(t, strings.Repeat("a", 4095)+"'", fault{api.ErrQuote, 4095})
	for _, s := range []string{a + "a", strings.Repeat(" ", 4097), "b c\n" + a, "'" + a, "`" + a, "<<E " + a, "b " + strings.Repeat("\n", 4095)} {
		checkLex(t, s, fault{api.ErrBig, 0})
	}
	if l, _, e := lex.Lex(strings.Repeat(";", 4096)); len(l) != 2048 || e != api.OK {
		t.Error(len(l), e)
	}
	if l, _, e := lex.Lex(strings.Repeat("\n", 4096)); len(l) != 4096 || e != api.OK {
		t.Error(len(l), e)
	}
}

// P4.2: what is wrong in a word, the byte to blame, and what is found ahead of it.
func TestLexErrors(t *testing.T) {
	ahead := []lex.Token{word("a", 0), op(";", 1), io("2", 2), op(">", 3)}
	for _, c := range []struct {
		s  string
		e  api.Errno
		at int
	}{
		{"'", api.ErrQuote, 0}, {"b'", api.ErrQuote, 1}, {`b"`, api.ErrQuote, 1}, {"b${c", api.ErrQuote, 1}, {"b$(c", api.ErrQuote, 2},
		{"b'c'\"d ; e", api.ErrQuote, 4}, {"b\"${c$(d'", api.ErrQuote, 8}, {"$((1)", api.ErrQuote, 1}, {`"\`, api.ErrQuote, 0}, {"'\n\n#", api.ErrQuote, 0},
		{"`", api.ErrSyntax, 0}, {"b`c`", api.ErrSyntax, 1}, {"\"`", api.ErrSyntax, 1}, {"b$(`)", api.ErrSyntax, 3}, {"b${`}", api.ErrSyntax, 3},
		{strings.Repeat("$(", 41), api.ErrBig, 81}, {"b" + strings.Repeat("${", 41), api.ErrBig, 81}, {strings.Repeat("\"$(", 21), api.ErrBig, 60},
	} {
		checkLex(t, c.s, fault{c.e, c.at})
		checkLex(t, "a;2> "+c.s, fault{c.e, 5 + c.at}, ahead...)
		checkLex(t, "a;2>\\\n"+c.s+" b\n", fault{c.e, 6 + c.at}, ahead...)
	}
	deep := strings.Repeat("$(", 40) + strings.Repeat(")", 40)
	checkLex(t, deep+deep+" "+deep, fine, word(deep+deep, 0), word(deep, 241))
}

// P4.2: texts in place.
func TestLexInPlace(t *testing.T) {
	checkLex(t, "<<E\nE\n", fine, here("<<", 0, ""), word("E", 2), newline(3))
	checkLex(t, "<<E\nE", fine, here("<<", 0, ""), word("E", 2), newline(3))
	checkLex(t, "<<E\nb\nE", fine, here("<<", 0, "b\n"), word("E", 2), newline(3))
	checkLex(t, "<<E\nb\n\n c \nE\nd\n", fine, here("<<", 0, "b\n\n c \n"), word("E", 2), newline(3), word("d", 13), newline(14))
	checkLex(t, "<<E\n E\nE \nEE\n\tE\nE\n", fine, here("<<", 0, " E\nE \nEE\n\tE\n"), word("E", 2), newline(3))
	checkLex(t, "<<E\n'`\"${$(\nE\n", fine, here("<<", 0, "'`\"${$(\n"), word("E", 2), newline(3))
	checkLex(t, "<<E\nb\\\nE\n", fine, here("<<", 0, "b\\\n"), word("E", 2), newline(3))
	checkLex(t, "<<E\n<<F\nE\n", fine, here("<<", 0, "<<F\n"), word("E", 2), newline(3))
	checkLex(t, "a 3<<E;b|c # d\ne\nE\nf", fine, word("a", 0), io("3", 2), here("<<", 3, "e\n"), word("E", 5), op(";", 6), word("b", 7),
		op("|", 8), word("c", 9), newline(14), word("f", 19))
	checkLex(t, "<< \t\\\nE\nb\nE\n", fine, here("<<", 0, "b\n"), word("E", 6), newline(7))
	checkLex(t, "<<E;\\\na\nb\nE\n", fine, here("<<", 0, "b\n"), word("E", 2), op(";", 3), word("a", 6), newline(7))
	checkLex(t, "<<E 'a\nb'\nc\nE\n", fine, here("<<", 0, "c\n"), word("E", 2), word("'a\nb'", 4), newline(9))
	checkLex(t, "<<E\nb\nE\n<<E\nc\nE\n", fine, here("<<", 0, "b\n"), word("E", 2), newline(3), here("<<", 8, "c\n"), word("E", 10), newline(11))
	checkLex(t, "<<2\nb\n2\n", fine, here("<<", 0, "b\n"), word("2", 2), newline(3))
	checkLex(t, "<<#\nb\n#\n", fine, op("<<", 0), newline(3), word("b", 4), newline(5), newline(7))
	checkLex(t, "<<$x${y}$(z)\n1\n$x${y}$(z)\n", fine, here("<<", 0, "1\n"), word("$x${y}$(z)", 2), newline(12))
	checkLex(t, "<<E\nb\r\nE\r\nE\n", fine, here("<<", 0, "b\r\nE\r\n"), word("E", 2), newline(3))
	checkLex(t, "<<E\n\xff\x00\nE\n", fine, here("<<", 0, "\xff\x00\n"), word("E", 2), newline(3))

	// No Word is directly behind these.
	checkLex(t, "<<\nb", fine, op("<<", 0), newline(2), word("b", 3))
	checkLex(t, "<<;E\nb", fine, op("<<", 0), op(";", 2), word("E", 3), newline(4), word("b", 5))
	checkLex(t, "<<2>E\nb", fine, op("<<", 0), io("2", 2), op(">", 3), word("E", 4), newline(5), word("b", 6))
	checkLex(t, "<E\nE", fine, op("<", 0), word("E", 1), newline(2), word("E", 3))
	checkLex(t, ">>E\nE", fine, op(">>", 0), word("E", 2), newline(3), word("E", 4))
	checkLex(t, "<<", fine, op("<<", 0))
	checkLex(t, "'<<'E\nb", fine, word("'<<'E", 0), newline(5), word("b", 6))
	checkLex(t, "$(<<E)\nb", fine, word("$(<<E)", 0), newline(6), word("b", 7))
	checkLex(t, "#<<E\nb", fine, newline(4), word("b", 5))
}

// P4.2: of <<- the lines lose the bytes 9 at their front, and no others.
func TestLexTabs(t *testing.T) {
	checkLex(t, "<<-E\n\tb\n\t\tc\td\n \te\n\t\n\tE\nf", fine, here("<<-", 0, "b\nc\td\n \te\n\n"), word("E", 3), newline(4), word("f", 23))
	checkLex(t, "<<- E\nE\n", fine, here("<<-", 0, ""), word("E", 4), newline(5))
	checkLex(t, "<<-E\n\t\tE", fine, here("<<-", 0, ""), word("E", 3), newline(4))
	checkLex(t, "<<-E\n \tE\nE", fine, here("<<-", 0, " \tE\n"), word("E", 3), newline(4))
	checkLex(t, "<<-''\nb\n\t\t\nc", fine, raw("<<-", 0, "b\n"), word("''", 3), newline(5), word("c", 11))
	checkLex(t, "<<-''\n\t", fine, raw("<<-", 0, ""), word("''", 3), newline(5))
	// An end line keeps its bytes 9, so that no line is it.
	checkLex(t, "<<-'\tE'\n\tE\nE\n", fault{api.ErrHere, 0}, raw("<<-", 0, ""), word("'\tE'", 3))
	checkLex(t, "<<'\tE'\nE\n\tE\n", fine, raw("<<", 0, "E\n"), word("'\tE'", 2), newline(6))
	checkLex(t, "<<E\n\tb\n\tE\nE\n", fine, here("<<", 0, "\tb\n\tE\n"), word("E", 2), newline(3))
}

// P4.2: the end line is the Word without its quotes, of each kind; Raw says that it has some.
func TestLexEndLines(t *testing.T) {
	for _, c := range []struct {
		word, end string
		raw       bool
	}{
		{"E", "E", false}, {"a-b", "a-b", false}, {"$x", "$x", false}, {"${x}", "${x}", false}, {"a#b", "a#b", false}, {"\xff", "\xff", false},
		{"'E'", "E", true}, {"''", "", true}, {"'a b'", "a b", true}, {`'\'`, `\`, true}, {`'"'`, `"`, true}, {"'$x'", "$x", true}, {"a'b'c'd'", "abcd", true},
		{"'`'", "`", true}, {`'a'"'"'b'`, "a'b", true},
		{`"E"`, "E", true}, {`""`, "", true}, {`"a b"`, "a b", true}, {`"'"`, "'", true}, {`"''"`, "''", true}, {`"$x"`, "$x", true}, {`"a""b"`, "ab", true},
		{`a"b"c"d"`, "abcd", true}, {`"a"'b'`, "ab", true}, {`"'"'"'`, `'"`, true},
		{`\E`, "E", true}, {`a\ b`, "a b", true}, {`\'`, "'", true}, {`\"`, `"`, true}, {`\\`, `\`, true}, {`\$`, "$", true}, {"\\`", "`", true}, {"\\\xff", "\xff", true},
		{"a\\\nb", "ab", true}, {`\a\b`, "ab", true}, {`\''a'`, "'a", true}, {`\"'a'`, `"a`, true},
		{`"\$"`, "$", true}, {`"\""`, `"`, true}, {`"\\"`, `\`, true}, {"\"\\`\"", "`", true}, {"\"a\\\nb\"", "ab", true},
		{`"\a"`, `\a`, true}, {`"\'"`, `\'`, true}, {`"\ "`, `\ `, true}, {`"\}"`, `\}`, true}, {`"\(\|"`, `\(\|`, true}, {"\"\\\xff\"", "\\\xff", true},
		{`"\a"\a`, `\aa`, true}, {`\a"\a"`, `a\a`, true}, {`"\\a"`, `\a`, true}, {`"a\"b'c"`, `a"b'c`, true},
		// Braces and runs play no part: the quotes in them are as any.
		{`${x-"a"}`, "${x-a}", true}, {`$('a' "b")`, "$(a b)", true}, {`"$("a")"`, "$(a)", true}, {`"${x-'a'}"`, "${x-'a'}", true}, {`"${x-"'a'"}"`, "${x-a}", true},
		{`${x-\}}`, "${x-}}", true}, {`"$("\a")"`, "$(a)", true}, {`$("'")`, "$(')", true},
		// A ' behind which no other one stands is as it is.
		{`"${x-"'"}"`, "${x-'}", true}, {`"$("\'")"`, "$(')", true}, {`"${x-"'"}"'b'`, `${x-"}"b'`, true},
	} {
		first := here
		if c.raw {
			first = raw
		}
		n := len(c.word)
		checkLex(t, "<<"+c.word+"\nb\n"+c.end+"\nc", fine, first("<<", 0, "b\n"), word(c.word, 2), newline(2+n), word("c", 6+n+len(c.end)))
		checkLex(t, "<<-"+c.word+" d\n"+c.end+"\n", fine, first("<<-", 0, ""), word(c.word, 3), word("d", 4+n), newline(5+n))
		checkLex(t, "<<"+c.word+"\n"+c.end+"x\nx"+c.end, fault{api.ErrHere, 0}, first("<<", 0, ""), word(c.word, 2))
		// The Word alone makes it Raw, wherever the text ends.
		checkLex(t, "a <<"+c.word, fault{api.ErrHere, 2}, word("a", 0), first("<<", 2, ""), word(c.word, 4))
	}
	checkLex(t, `<<a\`, fault{api.ErrHere, 0}, raw("<<", 0, ""), word(`a\`, 2))
	// No line has a byte 10 in it.
	checkLex(t, "<<'a\nb'\na\nb\n", fault{api.ErrHere, 0}, raw("<<", 0, ""), word("'a\nb'", 2))
	// Quotes that are not closed in the Word's own way are wrong ahead of all this.
	checkLex(t, "<<'E\nE\n", fault{api.ErrQuote, 2}, op("<<", 0))
	checkLex(t, "<<`\n", fault{api.ErrSyntax, 2}, op("<<", 0))
}

// P4.2: an end line of no bytes is an empty line; behind the text's last byte 10 there is none.
func TestLexEmptyEndLine(t *testing.T) {
	checkLex(t, "<<''\n\n", fine, raw("<<", 0, ""), word("''", 2), newline(4))
	checkLex(t, "<<''\nb\n\n\nc", fine, raw("<<", 0, "b\n"), word("''", 2), newline(4), newline(8), word("c", 9))
	checkLex(t, "<<''\n", fault{api.ErrHere, 0}, raw("<<", 0, ""), word("''", 2))
	checkLex(t, "<<''\nb\n", fault{api.ErrHere, 0}, raw("<<", 0, ""), word("''", 2))
	checkLex(t, "<<''\nb", fault{api.ErrHere, 0}, raw("<<", 0, ""), word("''", 2))
}

// P4.2: more than one text in place ahead of a Newline; they are taken up in order.
func TestLexMany(t *testing.T) {
	checkLex(t, "<<A <<B\n1\nA\n2\nB\n3", fine, here("<<", 0, "1\n"), word("A", 2), here("<<", 4, "2\n"), word("B", 6), newline(7), word("3", 16))
	checkLex(t, "<<A b|<<-'B' c;<<A\nB\nA\n\tA\n\tB\nB\nA", fine, here("<<", 0, "B\n"), word("A", 2), word("b", 4), op("|", 5), raw("<<-", 6, "A\n"),
		word("'B'", 9), word("c", 13), op(";", 14), here("<<", 15, "B\n"), word("A", 17), newline(18))
	checkLex(t, "<<A <<A\nA\nA\n", fine, here("<<", 0, ""), word("A", 2), here("<<", 4, ""), word("A", 6), newline(7))
	checkLex(t, "<<A <<\nA\n", fine, here("<<", 0, ""), word("A", 2), op("<<", 4), newline(6))
	many := strings.Repeat("<<E ", 300)
	l, _, e := lex.Lex(many + "\n" + strings.Repeat("b\nE\n", 300))
	if e != api.OK || len(l) != 601 || l[598] != here("<<", 299*4, "b\n") || l[600] != newline(1200) {
		t.Error(len(l), e)
	}
}

// P4.2: an end line that is missing, and a text that ends ahead of the Newline: the Op is to blame, and what is found ahead stays.
func TestLexHereErrors(t *testing.T) {
	checkLex(t, "<<E\n", fault{api.ErrHere, 0}, op("<<", 0), word("E", 2))
	checkLex(t, "<<E\nb\n", fault{api.ErrHere, 0}, op("<<", 0), word("E", 2))
	checkLex(t, "<<E\nb\nE ", fault{api.ErrHere, 0}, op("<<", 0), word("E", 2))
	checkLex(t, "a\n2<<-E b\nc", fault{api.ErrHere, 3}, word("a", 0), newline(1), io("2", 2), op("<<-", 3), word("E", 6), word("b", 8))
	// The first one's text ends, the second one's not, and the third one is not come to.
	checkLex(t, "<<A <<'B' <<A\n1\nA\n2\nA\n", fault{api.ErrHere, 4}, here("<<", 0, "1\n"), word("A", 2), raw("<<", 4, ""), word("'B'", 6),
		op("<<", 10), word("A", 12))
	checkLex(t, "<<A <<A\n1\nA", fault{api.ErrHere, 4}, here("<<", 0, "1\n"), word("A", 2), op("<<", 4), word("A", 6))
	checkLex(t, "<<A <<B\n1\nB\n", fault{api.ErrHere, 0}, op("<<", 0), word("A", 2), op("<<", 4), word("B", 6))
	checkLex(t, "<<A;b <<B", fault{api.ErrHere, 0}, op("<<", 0), word("A", 2), op(";", 3), word("b", 4), op("<<", 6), word("B", 8))
	checkLex(t, "<<A\nA\n<<B;<<C #", fault{api.ErrHere, 6}, here("<<", 0, ""), word("A", 2), newline(3), op("<<", 6), word("B", 8), op(";", 9),
		op("<<", 10), word("C", 12))
	checkLex(t, "<<A\nA\n<<B \\\n", fault{api.ErrHere, 6}, here("<<", 0, ""), word("A", 2), newline(3), op("<<", 6), word("B", 8))
	// What is wrong ahead of the Newline is found first; what is behind the end line is found behind it.
	checkLex(t, "<<A 'b\nA\n", fault{api.ErrQuote, 4}, op("<<", 0), word("A", 2))
	checkLex(t, "<<A b`", fault{api.ErrSyntax, 5}, op("<<", 0), word("A", 2))
	checkLex(t, "<<A\nb\nA\n'c", fault{api.ErrQuote, 8}, here("<<", 0, "b\n"), word("A", 2), newline(3))
	checkLex(t, "<<A\nb\n'c", fault{api.ErrHere, 0}, op("<<", 0), word("A", 2))
}

// holdLex holds Lex against the oracle, and what follows of P4.3.
func holdLex(t *testing.T, s string) {
	got, at, e := lex.Lex(s)
	want, wantAt, wantE := lexOracle(s)
	if !slices.Equal(got, want) || at != wantAt || e != wantE {
		t.Fatalf("Lex(%q): %v, %d, %v; want %v, %d, %v", s, got, at, e, want, wantAt, wantE)
	}
	standsIn(t, s, got)
	again(t, s, got)
}

// standsIn asks that tokens stand in s at their places, in order.
func standsIn(t *testing.T, s string, l []lex.Token) {
	end := 0
	for _, k := range l {
		if k.At < end || k.Text == "" || !strings.HasPrefix(s[k.At:], k.Text) {
			t.Fatalf("%q: %v stands not in it", s, k)
		}
		end = k.At + len(k.Text)
	}
}

// again asks that the texts of tokens have the same tokens, if no text in place is named.
func again(t *testing.T, s string, l []lex.Token) {
	joined := ""
	for i, k := range l {
		if i > 0 && isHere(l[i-1]) && k.Kind == lex.Word {
			return
		}
		if i > 0 && l[i-1].Kind != lex.Io {
			joined += " "
		}
		joined += k.Text
	}
	got, _, e := lex.Lex(joined)
	same := slices.EqualFunc(l, got, func(a, b lex.Token) bool { return a.Kind == b.Kind && a.Text == b.Text && b.Body == "" && !b.Raw })
	if !same || e != api.OK {
		t.Fatalf("%q: %v; again %q: %v, %v", s, l, joined, got, e)
	}
}

// P4.2, P4.3, R1: short texts of bytes and of parts, and scripts that are written by a rule.
func TestLexAll(t *testing.T) {
	for c := range 256 {
		for d := range 256 {
			holdLex(t, string([]byte{byte(c), byte(d)}))
			holdLex(t, string([]byte{'<', '<', byte(c), byte(d), '\n', byte(c), byte(d), '\n'}))
		}
	}
	texts(5, letters("a2 \n\\'\"#<->"), func(s string) { holdLex(t, s) })
	texts(5, letters("2;&|()<>-"), func(s string) { holdLex(t, s) })
	texts(4, []string{"<<", "<<-", "E", "'E'", `"\E"`, `\E`, "\n", "\nE\n", "\n\tE", "\\\n", "''", " ", "#", ";", "1>"}, func(s string) { holdLex(t, s) })
	texts(6, []string{"<<", "-", "E", "''", "\n", "\t", " "}, func(s string) { holdLex(t, s) })
	w := writer{2}
	for range 30000 {
		holdLex(t, w.script())
	}
}

// P4.2: the end line of each short Word, as the oracle has it.
func TestLexEndLinesAll(t *testing.T) {
	texts(6, letters("\\'\"$a{}\n"), func(w string) {
		if strings.HasPrefix(w, "\\\n") || w == "" || strings.Contains(strings.ReplaceAll(w, "\\\n", ""), "\n") {
			return
		}
		holdLex(t, "<<"+w+"\nb\n"+endOracle(w)+"\n")
	})
}

// R2, R3: what is answered is the caller's, and the next call knows nothing of it.
func TestLexAnswers(t *testing.T) {
	s := "a <<E;2>b\nc\nE\n"
	first, _, _ := lex.Lex(s)
	kept := slices.Clone(first)
	for i := range first {
		first[i] = lex.Token{}
	}
	_ = append(first, lex.Token{Text: "more"})
	lex.Lex("<<X 'b")
	if second, at, e := lex.Lex(s); !slices.Equal(second, kept) || at != 0 || e != api.OK {
		t.Error(second, at, e)
	}
	if lex.Word != 1 || lex.Op != 2 || lex.Newline != 3 || lex.Io != 4 {
		t.Error("the kinds are 1 to 4")
	}
}
