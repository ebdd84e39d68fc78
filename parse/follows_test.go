package parse_test

import (
	"strconv"
	"strings"
	"testing"

	"conch/api"
	"conch/parse"
)

// checkTwo holds two scripts on lines of their own against each of them alone; the first one has no error.
func checkTwo(t *testing.T, first, second string) {
	t.Helper()
	one, _, e := parse.Parse(first)
	if e != api.OK {
		t.Fatalf("Parse(%q): %v", first, e)
	}
	two, at, e := parse.Parse(second)
	want := shownAll(append(one, two...))
	if e != api.OK {
		want += " !" + errorNames[e] + " " + strconv.Itoa(len(first)+1+at)
	}
	if got := answer(first + "\n" + second); got != want {
		t.Fatalf("Parse(%q):\n got %s\nwant %s", first+"\n"+second, got, want)
	}
}

// P6.3: two scripts, one behind the other on lines of their own, have the commands of both.
func TestTwoScripts(t *testing.T) {
	rights := []string{
		"", "\n", "a", "a\n", "a;", "a b; c | d", "a # b", "# a", "a\nb", "{ a; }", "(a\nb)", "if a; then b; fi", "for x; do a; done", "for x in a\ndo b\ndone >f", "case a in b) c;; esac", "f() { a; } 2>&1",
		"a <<E\nb\nE", "a <<E\nb\nE\n", "a <<E; b <<'F'\n1\nE\n$(\nF", "a 'b\nc'", "x=1", ">f", "! a", "a \\\nb", "a\\\n", "\\\n", "a # b \\ c",
	}
	wrongs := []string{
		")", "a )", "if a", "a\nb &", "a 'b", "'", "a\n\"$(", "`", "a <<E", "a <<E\nb", "a\nb <<E\n${\nE\n", "1000>f", "a 2>", "a && ", "{ a }", "${}", "a; x=${}", "f() a", "fi", "a |\n\n", "case a in\nb) c",
		strings.Repeat("(", 41), "a\n\n" + strings.Repeat("{ ", 41),
	}
	for _, a := range rights {
		for _, b := range append(wrongs, rights...) {
			checkTwo(t, a, b)
		}
	}
}

// P6.3: scripts that are written by a rule, and spoilt ones behind them.
func TestTwoWrittenScripts(t *testing.T) {
	w := &writer{state: 4}
	for i := range 1500 {
		a, _ := w.script(1+i%2, i%3)
		b, _ := w.script(1+i%3, i%4)
		if len(a)+len(b) < api.MaxText {
			checkTwo(t, a, b)
		}
		if b = w.spoilt(b); len(a)+len(b) < api.MaxText {
			checkTwo(t, a, b)
		}
	}
}

// spoilWords writes behind words and the lists of them; and, if it is told to, into them.
func spoilWords(into bool, l []api.Word) {
	_ = append(l, api.Word{{Kind: 9, Text: "spoilt"}})
	for i, w := range l {
		_ = append(w, api.Part{Kind: 9, Text: "spoilt"})
		for k := range w {
			spoilWords(into, []api.Word{w[k].Word})
			if into {
				w[k] = api.Part{Kind: 9, Text: "spoilt"}
			}
		}
		if into {
			l[i] = nil
		}
	}
}

// spoil does that with all lists of a command.
func spoil(into bool, c api.Cmd) {
	_ = append(c.Lets, api.Let{Name: "spoilt"})
	for i := range c.Lets {
		spoilWords(into, []api.Word{c.Lets[i].Word})
		if into {
			c.Lets[i].Name = "spoilt"
		}
	}
	_ = append(c.Redirs, api.Redir{Fd: 77})
	for i := range c.Redirs {
		spoilWords(into, []api.Word{c.Redirs[i].Word})
		if into {
			c.Redirs[i].Fd = 77
		}
	}
	_ = append(c.Items, api.Item{Body: []api.Cmd{{}}})
	for _, i := range c.Items {
		spoilWords(into, i.Words)
		spoilAll(into, i.Body)
	}
	spoilWords(into, c.Words)
	spoilAll(into, c.Cmds)
}

// spoilAll does that with all commands of a list.
func spoilAll(into bool, l []api.Cmd) {
	_ = append(l, api.Cmd{Name: "spoilt"})
	for i := range l {
		spoil(into, l[i])
		if into {
			l[i] = api.Cmd{Name: "spoilt"}
		}
	}
}

// R2: what is answered is the caller's: no two lists of an answer share memory, nor do two answers.
func TestAnswersOfTheirOwn(t *testing.T) {
	w := &writer{state: 5}
	for i := range 1000 {
		s, want := w.script(3, i%3)
		if len(s) > api.MaxText {
			continue
		}
		first, _, _ := parse.Parse(s)
		second, _, _ := parse.Parse(s)
		spoilAll(false, first)
		// What is spoilt behind lists is not to be seen, nor what is spoilt of one command in those behind it.
		for k := range first {
			if got := shownAll(first[k:]); got != shownAll(want[k:]) {
				t.Fatalf("Parse(%q), %d spoilt: %s", s, k, got)
			}
			spoil(true, first[k])
		}
		if third, _, _ := parse.Parse(s); shownAll(second) != shownAll(want) || shownAll(third) != shownAll(want) {
			t.Fatalf("Parse(%q), when another answer was spoilt: %s, %s", s, shownAll(second), shownAll(third))
		}
	}
}

// R2: Same writes into nothing.
func TestSameWritesNothing(t *testing.T) {
	a, b := full(2), full(2)
	parse.Same(a, b)
	parse.Same(a, full(1))
	if shown(a) != shown(full(2)) || shown(b) != shown(full(2)) {
		t.Error("a command is changed")
	}
}
