package parse_test

import (
	"slices"
	"strconv"
	"strings"
	"testing"

	"conch/api"
	"conch/parse"
)

// named is the word for a number of a table, or the number, if it has none.
func named(n int, names string) string {
	if l := strings.Fields(names); 0 < n && n <= len(l) {
		return l[n-1]
	}
	return strconv.Itoa(n)
}

// shownWord is a word in short: Lits as they are, quoted ones in ', others with all that is in them.
func shownWord(w api.Word) string {
	out := ""
	for _, p := range w {
		text := p.Text
		if p.Kind != api.Lit || p.Op != 0 || p.Colon || len(p.Word) > 0 {
			text = named(p.Kind, "lit var run sum") + "{" + p.Text + named(p.Op, "length - = ? + # ## % %%")
			if p.Colon {
				text += ":"
			}
			text += " " + shownWord(p.Word) + "}"
		}
		if p.Quote {
			text = "'" + text + "'"
		}
		out += text
	}
	return out
}

// shown is a command in short, with all fields that are not zero, whatever its kind; Lets with a :=, unlike Words.
func shown(c api.Cmd) string {
	out := named(c.Kind, "s pipe and or seq group sub if while until for case func")
	if c.Not {
		out += "!"
	}
	if c.Name != "" {
		out += ":" + c.Name
	}
	if c.Every {
		out += "@"
	}
	for _, l := range c.Lets {
		out += " " + l.Name + ":=" + shownWord(l.Word)
	}
	for _, w := range c.Words {
		out += " " + shownWord(w)
	}
	for _, x := range c.Cmds {
		out += "(" + shown(x) + ")"
	}
	for _, i := range c.Items {
		out += "["
		for _, w := range i.Words {
			out += shownWord(w) + "|"
		}
		for _, x := range i.Body {
			out += " " + shown(x)
		}
		out += "]"
	}
	for _, r := range c.Redirs {
		out += " " + strconv.Itoa(r.Fd) + named(r.Kind, "< > >> <> & <<") + shownWord(r.Word)
	}
	return out
}

// shownAll is commands in short.
func shownAll(l []api.Cmd) string {
	var out []string
	for _, c := range l {
		out = append(out, shown(c))
	}
	return strings.Join(out, "; ")
}

// answer is what Parse answers, in short: the commands, and, if there is an error, that, and its place.
func answer(s string) string {
	l, at, e := parse.Parse(s)
	out := shownAll(l)
	if e != api.OK || at != 0 {
		out += " !" + errorNames[e] + " " + strconv.Itoa(at)
	}
	return out
}

var errorNames = map[api.Errno]string{api.ErrSyntax: "syntax", api.ErrBig: "big", api.ErrQuote: "quote", api.ErrHere: "here"}

// check holds what Parse answers of scripts against what is wanted.
func check(t *testing.T, answers map[string]string) {
	t.Helper()
	for s, want := range answers {
		if got := answer(s); got != want {
			t.Errorf("Parse(%.200q):\n got %.300s\nwant %.300s", s, got, want)
		}
	}
}

// checkSame holds what Parse answers of several scripts against the one answer that is wanted of all.
func checkSame(t *testing.T, want string, scripts ...string) {
	t.Helper()
	for _, s := range scripts {
		if got := answer(s); got != want {
			t.Errorf("Parse(%.200q):\n got %.300s\nwant %.300s", s, got, want)
		}
	}
}

// reserved are the reserved words, but in.
var reserved = strings.Fields("! { } case do done elif else esac fi for if then until while")

// isReserved tells whether a text is one of them.
func isReserved(s string) bool { return slices.Contains(reserved, s) }

// syntaxBehind is, in short, an ErrSyntax alone, at the place behind a text.
func syntaxBehind(s string) string { return " !syntax " + strconv.Itoa(len(s)) }
