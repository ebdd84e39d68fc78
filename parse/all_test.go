package parse_test

import (
	"strings"
	"testing"

	"conch/api"
	"conch/lex"
	"conch/parse"
)

// P6.1: scripts that are written by a rule have the commands that they were written of.
func TestWrittenScripts(t *testing.T) {
	w := &writer{state: 1}
	kinds := map[int]int{}
	for i := range 6000 {
		s, want := w.script(1+i%3, i%4)
		if len(s) > api.MaxText {
			continue
		}
		l, at, e := parse.Parse(s)
		if e != api.OK || at != 0 || shownAll(l) != shownAll(want) {
			t.Fatalf("Parse(%q):\n got %s %d %v\nwant %s", s, shownAll(l), at, e, shownAll(want))
		}
		for i, c := range l {
			kinds[c.Kind]++
			if !parse.Same(c, want[i]) || !parse.Same(want[i], c) {
				t.Fatalf("Parse(%q): %s isn't the same as it is", s, shown(c))
			}
			if other := l[(i+1)%len(l)]; parse.Same(c, other) != (shown(c) == shown(other)) {
				t.Fatalf("Same of %s and %s: %v", shown(c), shown(other), shown(c) != shown(other))
			}
		}
	}
	for kind := api.Simple; kind <= api.Func; kind++ {
		if kinds[kind] < 50 {
			t.Errorf("only %d of kind %d", kinds[kind], kind)
		}
	}
}

// holdAgainstOracle holds what Parse answers of a script against the oracle.
func holdAgainstOracle(t *testing.T, s string) (lines int, e api.Errno) {
	t.Helper()
	l, at, e := parse.Parse(s)
	if wantLines, wantAt, want := oracle(s); len(l) != wantLines || at != wantAt || e != want {
		t.Fatalf("Parse(%q): %s; %d %v; want %d lines, %d %v", s, shownAll(l), at, e, wantLines, wantAt, want)
	}
	return len(l), e
}

// vocabulary is a token of each kind; wrong ones, too.
var vocabulary = append(strings.Fields("a x=1 1 in 'f' ${} 2>f 1000>f <f > << 3< & && || ;; | ; ( )"), append([]string{"\n"}, reserved...)...)

// P6.1: short scripts of all tokens, right or wrong.
func TestShortScripts(t *testing.T) {
	for _, a := range vocabulary {
		holdAgainstOracle(t, a)
		for _, b := range vocabulary {
			holdAgainstOracle(t, a+" "+b)
			for _, c := range vocabulary {
				holdAgainstOracle(t, a+" "+b+" "+c)
			}
		}
	}
}

// P6.1: all tokens, two of them, at places within commands.
func TestPlaces(t *testing.T) {
	for _, ahead := range []string{
		"a;", "a\n", "a |", "a &&\n", "! a", "x=1", ">f", "( a", "( a ;", "(a)", "(a) >f", "{ a ;", "{ a ; }", "if a ;", "if a ; then", "if a ; then b ;", "if a ; then b ; else", "if a ; then b ; else c ;",
		"if a ; then b ; elif", "if a ; then b ; elif c ;", "if a ; then b ; elif c ; then d ;", "if a ; then b ; fi", "while a ;", "until a ; do", "while a ; do b ;", "until a ; do b ; done", "for x", "for x ;",
		"for x in", "for x in a", "for x in a ;", "for x do", "for x do a ;", "case a", "case a in", "case a in (", "case a in b", "case a in b |", "case a in (b", "case a in b )", "case a in b ) c", "case a in b ) c ;",
		"case a in b ) c ;;", "case a in b ) ;;", "f (", "f ( )", "f ( ) { a ; }", "{ (a)", "if (a)", "while (a) do (b)", "case a in b) (c)", "! a |", "a b",
	} {
		for _, b := range vocabulary {
			for _, c := range vocabulary {
				holdAgainstOracle(t, ahead+" "+b+" "+c)
			}
			holdAgainstOracle(t, ahead+" "+b+" a ; done ; fi ; esac ; }")
			holdAgainstOracle(t, ahead+" "+b+" fi fi")
			holdAgainstOracle(t, ahead+" "+b+"\n'x")
			holdAgainstOracle(t, ahead+"\n"+b+" \n; a")
		}
	}
}

// spoilt is a script of which a token is dropped, put in or written twice, or which is cut off.
func (w *writer) spoilt(s string) string {
	tokens, _, _ := lex.Lex(s)
	if len(tokens) == 0 {
		return s
	}
	k := tokens[w.pick(len(tokens))]
	end := k.At + len(k.Text)
	switch w.pick(5) {
	case 0:
		return s[:k.At] + " " + s[end:]
	case 1:
		return s[:k.At] + w.one(vocabulary...) + " " + s[k.At:]
	case 2:
		return s[:end] + " " + s[k.At:]
	case 3:
		return s[:k.At] + w.one(vocabulary...) + s[end:]
	}
	return s[:w.pick(len(s)+1)] + w.one("", "'", "\n", "`", "$(", "<<E")
}

// P6.1: scripts that are written by a rule, and spoilt.
func TestSpoiltScripts(t *testing.T) {
	w := &writer{state: 2}
	errors := map[api.Errno]int{}
	linesAhead := 0
	for i := range 8000 {
		s, _ := w.script(1+i%3, i%3)
		for range 1 + w.pick(2) {
			s = w.spoilt(s)
		}
		if len(s) > 1000 {
			continue
		}
		lines, e := holdAgainstOracle(t, s)
		errors[e]++
		if e != api.OK {
			linesAhead += lines
		}
	}
	for _, e := range []api.Errno{api.OK, api.ErrSyntax, api.ErrBig, api.ErrQuote, api.ErrHere} {
		if errors[e] < 30 {
			t.Errorf("only %d with the error %v", errors[e], e)
		}
	}
	if linesAhead < 500 {
		t.Errorf("only %d lines ahead of what is wrong", linesAhead)
	}
}

// R1: whatever bytes are a script, it is parsed or refused, by an error that is named, at a place of it or its end.
func TestBytes(t *testing.T) {
	w := &writer{state: 3}
	for range 100000 {
		s := ""
		for range w.pick(12) {
			s += w.one("a", " ", "\n", ";", "(", ")", "{ ", "}", "|", "&", "<", ">", "<<", "'", "\"", "\\", "$", "`", "#", "=", "1", "if ", "fi ", "for ", "x ", "do ", "in ", "case ", "esac", "! ", string([]byte{byte(w.pick(256))}))
		}
		l, at, e := parse.Parse(s)
		switch e {
		case api.OK:
			if at != 0 {
				t.Fatalf("Parse(%q): %d without an error", s, at)
			}
		case api.ErrSyntax, api.ErrBig, api.ErrQuote, api.ErrHere:
			if at < 0 || at > len(s) {
				t.Fatalf("Parse(%q): %d %v", s, at, e)
			}
		default:
			t.Fatalf("Parse(%q): %v", s, e)
		}
		if again, _, _ := parse.Parse(s); shownAll(again) != shownAll(l) {
			t.Fatalf("Parse(%q): %s, and %s", s, shownAll(l), shownAll(again))
		}
		holdAgainstOracle(t, s)
	}
}
