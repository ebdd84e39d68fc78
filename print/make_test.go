package print_test

import (
	"testing"

	"conch/api"
	"conch/parse"
	"conch/print"
	"conch/word"
)

// w is the word that a text is.
func w(raw string) api.Word {
	parts, e := word.Parse(raw)
	if e != api.OK {
		panic("no word")
	}
	return parts
}

// s is a Simple of Words.
func s(raws ...string) api.Cmd {
	c := api.Cmd{Kind: api.Simple}
	for _, raw := range raws {
		c.Words = append(c.Words, w(raw))
	}
	return c
}

// let is a Let.
func let(name, raw string) api.Let { return api.Let{Name: name, Word: w(raw)} }

// to is a redirection.
func to(fd, kind int, raw string) api.Redir { return api.Redir{Fd: fd, Kind: kind, Word: w(raw)} }

// raw is a redirection with a text in place that is one quoted Lit.
func raw(fd int, text string) api.Redir {
	return api.Redir{Fd: fd, Kind: api.Here, Word: api.Word{{Kind: api.Lit, Text: text, Quote: true}}}
}

// here is a redirection with a text in place that is expanded.
func here(fd int, body string) api.Redir {
	parts, e := word.Here(body)
	if e != api.OK {
		panic("no text in place")
	}
	return api.Redir{Fd: fd, Kind: api.Here, Word: parts}
}

// of is a command of a kind, of others.
func of(kind int, l ...api.Cmd) api.Cmd { return api.Cmd{Kind: kind, Cmds: l} }

// not is a Pipe with Not.
func not(l ...api.Cmd) api.Cmd { return api.Cmd{Kind: api.Pipe, Not: true, Cmds: l} }

// with is a command with redirections.
func with(c api.Cmd, l ...api.Redir) api.Cmd {
	c.Redirs = l
	return c
}

// each is a For, every one without in.
func each(name string, body api.Cmd, raws ...string) api.Cmd {
	return api.Cmd{Kind: api.For, Name: name, Words: s(raws...).Words, Cmds: []api.Cmd{body}}
}

func every(name string, body api.Cmd) api.Cmd {
	return api.Cmd{Kind: api.For, Name: name, Every: true, Cmds: []api.Cmd{body}}
}

// choice is a Case, item an item of one.
func choice(raw string, l ...api.Item) api.Cmd {
	return api.Cmd{Kind: api.Case, Words: []api.Word{w(raw)}, Items: l}
}

func item(body []api.Cmd, raws ...string) api.Item {
	return api.Item{Words: s(raws...).Words, Body: body}
}

// function is a Func.
func function(name string, body api.Cmd) api.Cmd {
	return api.Cmd{Kind: api.Func, Name: name, Cmds: []api.Cmd{body}}
}

// a to e are short commands.
var a, b, c, d, e = s("a"), s("b"), s("c"), s("d"), s("e")

// pair is a command, and what is printed of it; nothing: ErrArg.
type pair struct {
	cmd  api.Cmd
	want string
}

// check holds what Print answers of commands against what is wanted, and that against what it is parsed as.
func check(t *testing.T, l ...pair) {
	t.Helper()
	for i, p := range l {
		want := api.OK
		if p.want == "" {
			want = api.ErrArg
		}
		got, e := print.Print(p.cmd)
		if got != p.want || e != want {
			t.Errorf("%d: Print: %.200q, %v; want %.200q, %v", i, got, e, p.want, want)
		}
		if e == api.OK {
			checkParsed(t, got, p.cmd)
		}
	}
}

// checkParsed holds what a script is parsed as against commands.
func checkParsed(t *testing.T, script string, want ...api.Cmd) {
	t.Helper()
	l, _, e := parse.Parse(script)
	if e != api.OK || len(l) != len(want) {
		t.Errorf("Parse(%.200q): %d commands, %v; want %d", script, len(l), e, len(want))
		return
	}
	for i := range l {
		if !parse.Same(l[i], want[i]) {
			t.Errorf("Parse(%.200q): command %d is another one", script, i)
		}
	}
}

// refused checks that commands can't be printed.
func refused(t *testing.T, l ...api.Cmd) {
	t.Helper()
	for i, c := range l {
		if got, e := print.Print(c); got != "" || e != api.ErrArg {
			t.Errorf("%d: Print: %.200q, %v; want ErrArg", i, got, e)
		}
		if got, e := print.Lines([]api.Cmd{a, c}); got != "" || e != api.ErrArg {
			t.Errorf("%d: Lines: %.200q, %v; want ErrArg", i, got, e)
		}
	}
}
