package lex_test

import (
	"strings"

	"conch/api"
	"conch/lex"
)

// knows says what begins more than a byte, by what it stands in: w a word, q double quotes, b a brace, c a quoted brace,
// r a bracket.
var knows = map[byte][]string{
	'w': {`"`, "'", "${", "$("},
	'q': {"${", "$("},
	'b': {`"`, "'", "${", "$("},
	'c': {`"`, "${", "$("},
	'r': {`"`, "'", "${", "$(", "("},
}

// ends says by which byte what is open is ended.
var ends = map[byte]byte{'q': '"', 'b': '}', 'c': '}', 'r': ')', '1': '\''}

// open is something that is begun, and the byte that is to blame, if it does not end.
type open struct {
	kind byte
	at   int
}

// pieceOracle keeps what is open in a list, and goes on byte by byte; it makes no calls of itself.
func pieceOracle(s string, at int, quoted bool) (int, int, api.Errno) {
	base := byte('w')
	if quoted {
		base = 'q'
	}
	stack := []open{{base, -1}}
	for i := at; ; {
		top := stack[len(stack)-1]
		switch {
		case len(stack) == 1 && i > at:
			return i, 0, api.OK
		case i == len(s):
			return 0, top.at, api.ErrQuote
		case len(stack) > 1 && s[i] == ends[top.kind]:
			stack = stack[:len(stack)-1]
			i++
			continue
		case top.kind == '1':
			i++
			continue
		}
		begun, n := begins(s[i:], top.kind)
		if begun == 0 {
			if s[i] == '`' {
				return 0, i, api.ErrSyntax
			}
			i += n
			continue
		}
		first := i
		if begun == 'r' {
			first += n - 1
		}
		stack = append(stack, open{begun, first})
		if begun != '1' && len(stack)-1 > 40 {
			return 0, first, api.ErrBig
		}
		i += n
	}
}

// begins is the kind of what is begun at the front of s, and how many bytes that takes; 0: a pair, or a byte.
func begins(s string, in byte) (byte, int) {
	if s[0] == '\\' {
		return 0, min(2, len(s))
	}
	for _, sign := range knows[in] {
		if !strings.HasPrefix(s, sign) {
			continue
		}
		switch sign {
		case `"`:
			return 'q', 1
		case "'":
			return '1', 1
		case "${":
			if in == 'q' || in == 'c' {
				return 'c', 2
			}
			return 'b', 2
		}
		return 'r', len(sign)
	}
	return 0, 1
}

// endOracle is an end line, by an automaton.
func endOracle(word string) string {
	end, state, held := "", '-', false
	for i := range len(word) {
		c := word[i : i+1]
		switch {
		case held:
			held = false
			if c == "\n" {
				continue
			}
			if state == '"' && !strings.Contains("$\"\\`", c) {
				end += `\`
			}
			end += c
		case state == '\'' && c == "'":
			state = '-'
		case state == '\'':
			end += c
		case c == `\` && i < len(word)-1:
			held = true
		case c == `"` && state == '-':
			state = '"'
		case c == `"`:
			state = '-'
		case c == "'" && state == '-' && strings.Count(word[i:], "'") > 1:
			state = '\''
		default:
			end += c
		}
	}
	return end
}

// documentOps are the operators in the order in which the document lists them.
var documentOps = strings.Fields("&& || ;; <<- << >> <& >& <> | & ; < > ( )")

// longest is the longest operator at the front of s.
func longest(s string) string {
	found := ""
	for _, op := range documentOps {
		if len(op) > len(found) && strings.HasPrefix(s, op) {
			found = op
		}
	}
	return found
}

// isHere tells whether a Word behind t names a text in place.
func isHere(t lex.Token) bool { return t.Kind == lex.Op && (t.Text == "<<" || t.Text == "<<-") }

// lexOracle is the document's words, one case each; it knows a token by looking at what is behind it.
func lexOracle(s string) ([]lex.Token, int, api.Errno) {
	var l []lex.Token
	var named []int // the Ops whose texts are still to come
	var endsOf []string
	for i := 0; i < len(s); {
		op := longest(s[i:])
		switch {
		case s[i] == ' ' || s[i] == '\t':
			i++
		case strings.HasPrefix(s[i:], "\\\n"):
			i += 2
		case s[i] == '#':
			for i < len(s) && s[i] != '\n' {
				i++
			}
		case s[i] == '\n':
			next, bad := bodies(s, i+1, l, named, endsOf)
			if bad >= 0 {
				return l, l[bad].At, api.ErrHere
			}
			l = append(l, lex.Token{Kind: lex.Newline, Text: "\n", At: i})
			named, endsOf, i = nil, nil, next
		case op != "":
			l = append(l, lex.Token{Kind: lex.Op, Text: op, At: i})
			i += len(op)
		default:
			end, blame, e := wordEnd(s, i)
			if e != api.OK {
				return l, blame, e
			}
			t := lex.Token{Kind: lex.Word, Text: s[i:end], At: i}
			if strings.Trim(t.Text, "0123456789") == "" && end < len(s) && strings.Contains("<>", s[end:end+1]) {
				t.Kind = lex.Io
			}
			if n := len(l) - 1; n >= 0 && isHere(l[n]) && t.Kind == lex.Word {
				named, endsOf = append(named, n), append(endsOf, endOracle(t.Text))
				l[n].Raw = strings.Contains(t.Text, `\`) || strings.Contains(t.Text, `'`) || strings.Contains(t.Text, `"`)
			}
			l, i = append(l, t), end
		}
	}
	if len(named) > 0 {
		return l, l[named[0]].At, api.ErrHere
	}
	return l, 0, api.OK
}

// wordEnd is where the word ends that begins at a place.
func wordEnd(s string, i int) (int, int, api.Errno) {
	for i < len(s) && !strings.Contains(" \t\n|&;<>()", s[i:i+1]) {
		end, blame, e := pieceOracle(s, i, false)
		if e != api.OK {
			return 0, blame, e
		}
		i = end
	}
	return i, 0, api.OK
}

// bodies gives the Ops that are named their texts, and tells where what follows goes on, and the Op whose text does not end.
func bodies(s string, from int, l []lex.Token, named []int, endsOf []string) (next, bad int) {
	lines := strings.SplitAfter(s[from:], "\n")
	if lines[len(lines)-1] == "" {
		lines = lines[:len(lines)-1]
	}
	next = from
	for k, n := range named {
		body := ""
		for {
			if len(lines) == 0 {
				return 0, n
			}
			next += len(lines[0])
			line := strings.TrimSuffix(lines[0], "\n")
			lines = lines[1:]
			for l[n].Text == "<<-" && strings.HasPrefix(line, "\t") {
				line = line[1:]
			}
			if line == endsOf[k] {
				break
			}
			body += line + "\n"
		}
		l[n].Body = body
	}
	return next, -1
}
