package print_test

import (
	"strings"
	"testing"

	"conch/api"
	"conch/print"
)

// checkLines holds what Lines answers against what is wanted.
func checkLines(t *testing.T, want string, wrong api.Errno, l ...api.Cmd) {
	t.Helper()
	got, e := print.Lines(l)
	if got != want || e != wrong {
		t.Errorf("Lines of %d: %d bytes %.200q, %v; want %d bytes %.200q, %v", len(l), len(got), got, e, len(want), want, wrong)
	}
	if e == api.OK {
		checkParsed(t, got, l...)
	}
}

// P7.2: no command, one and several, with and without texts in place.
func TestLines(t *testing.T) {
	checkLines(t, "", api.OK)
	checkLines(t, "a\n", api.OK, a)
	checkLines(t, "a\nb\nc\n", api.OK, a, b, c)
	checkLines(t, "a\na\n", api.OK, a, a)
	checkLines(t, "0<<'E' a\nb\nE\n", api.OK, with(a, raw(0, "b\n")))
	checkLines(t, "0<<'E' a\nE\n", api.OK, with(a, raw(0, "")))
	checkLines(t, "a\n0<<'E' b\n1\nE\nc\n0<<E 0<<'E' d\n${x}\nE\n\nE\ne\n", api.OK, a, with(b, raw(0, "1\n")), c, with(d, here(0, "$x\n"), raw(0, "\n")), e)
	checkLines(t, "a; b\nif a; then b; fi 1>f\n", api.OK, of(api.Seq, a, b), with(of(api.If, a, b), to(1, api.Out, "f")))
	if got, e := print.Lines([]api.Cmd{}); got != "" || e != api.OK {
		t.Errorf("Lines of none: %q, %v", got, e)
	}
}

// P7.2: the first error of several; it counts for more than that all would be too long, wherever it stands.
func TestLinesErrors(t *testing.T) {
	bad := of(api.Pipe, a)
	checkLines(t, "", api.ErrArg, bad)
	checkLines(t, "", api.ErrArg, bad, a, b)
	checkLines(t, "", api.ErrArg, a, bad, b)
	checkLines(t, "", api.ErrArg, a, b, bad)
	checkLines(t, "", api.ErrArg, bad, api.Cmd{}, s("if"))
	long := s(strings.Repeat("a", 4000))
	checkLines(t, "", api.ErrBig, long, long)
	checkLines(t, "", api.ErrBig, long, long, a)
	checkLines(t, "", api.ErrArg, long, long, bad)
	checkLines(t, "", api.ErrArg, bad, long, long)
	checkLines(t, "", api.ErrArg, long, bad, long)
	checkLines(t, "", api.ErrArg, long, long, long, api.Cmd{}, a)
}

// P7.2: scripts of 4096 bytes, and of more.
func TestLinesBig(t *testing.T) {
	text := strings.Repeat("a", 4096)
	check(t, pair{s(text), text}, pair{s(text[1:]), text[1:]})
	checkLines(t, text[1:]+"\n", api.OK, s(text[1:]))
	checkLines(t, "", api.ErrBig, s(text))
	checkLines(t, "", api.ErrArg, s(text, "a"))
	var l []api.Cmd
	for range 2048 {
		l = append(l, a)
	}
	checkLines(t, strings.Repeat("a\n", 2048), api.OK, l...)
	checkLines(t, "", api.ErrBig, append(l, a)...)
	checkLines(t, "", api.ErrBig, append(l[:2047:2047], s("aa"))...)
	checkLines(t, "", api.ErrArg, append(l, a, api.Cmd{})...)
	checkLines(t, "", api.ErrArg, append(l, a, s("fi"))...)

	// Of texts in place the last byte 10 is there already.
	const around = "0<<'E' a\n" + "\nE\n"
	place := text[len(around):]
	whole := with(a, raw(0, place+"\n"))
	check(t, pair{whole, "0<<'E' a\n" + place + "\nE\n"})
	checkLines(t, "0<<'E' a\n"+place+"\nE\n", api.OK, whole)
	checkLines(t, "", api.ErrBig, whole, a)
	checkLines(t, "", api.ErrBig, a, whole)
	refused(t, with(a, raw(0, place+"a\n")), with(a, raw(0, text)), with(a, raw(0, strings.Repeat("E\n", 1<<16))), with(a, here(0, "$x"+place[:4000]+"\n"), here(0, "$x"+place[:4000]+"\n")))
}

// P7.1: depths: 40 commands within one another, words in quotes 40 deep.
func TestDepths(t *testing.T) {
	for n := 1; n <= 42; n++ {
		sub, group, branch, loop := a, a, a, a
		for range n {
			sub, group, branch, loop = of(api.Subshell, sub), of(api.Group, group), of(api.If, branch, b), of(api.While, b, loop)
		}
		wants := []string{
			strings.Repeat("(", n) + "a" + strings.Repeat(")", n), strings.Repeat("{ ", n) + "a" + strings.Repeat("; }", n),
			strings.Repeat("if ", n) + "a" + strings.Repeat("; then b; fi", n), strings.Repeat("while b; do ", n) + "a" + strings.Repeat("; done", n),
		}
		for i, cmd := range []api.Cmd{sub, group, branch, loop} {
			if n > 40 {
				wants[i] = ""
			}
			check(t, pair{cmd, wants[i]})
		}
	}
	chain, want := of(api.If, a, b), "if a; then b; fi"
	and, all := a, "a"
	for range 200 {
		chain, want = of(api.If, a, b, chain), "if a; then b; el"+want
		and, all = of(api.And, and, b), all+" && b"
	}
	check(t, pair{chain, want}, pair{and, all})
}

// withinItself is a command of a kind that has itself in all its lists, n times in each.
func withinItself(kind, n int) api.Cmd {
	round, items := make([]api.Cmd, n), make([]api.Item, n)
	c := api.Cmd{Kind: kind, Cmds: round, Items: items}
	if kind == api.For || kind == api.Func {
		c.Name = "f"
	}
	if kind == api.For || kind == api.Case {
		c.Words = s("a").Words
	}
	for i := range n {
		round[i], items[i] = c, api.Item{Words: s("a").Words, Body: round}
	}
	return c
}

// R1: commands without an end.
func TestWithinItself(t *testing.T) {
	for kind := -1; kind <= 15; kind++ {
		for n := 1; n <= 4; n++ {
			refused(t, withinItself(kind, n))
		}
	}
	long := api.Word{{Kind: api.Var, Text: "x", Op: api.Default}}
	long[0].Word = long
	refused(t, api.Cmd{Kind: api.Simple, Words: []api.Word{long}}, with(a, api.Redir{Kind: api.Here, Word: long}), with(a, api.Redir{Kind: api.In, Word: long}))
}

// R1: commands that are as deep as may be: the deep one ahead of others, and behind them.
func TestDeep(t *testing.T) {
	for kind := api.Pipe; kind <= api.Func; kind++ {
		for n := range 3 {
			ahead, behind := a, a
			for range 1 << 16 {
				ahead = api.Cmd{Kind: kind, Not: kind == api.Pipe, Cmds: append([]api.Cmd{ahead}, many(n)...)}
				behind = of(kind, append(many(n), behind)...)
			}
			refused(t, ahead, behind)
		}
	}
}

// R1: long texts, and lists of many.
func TestLong(t *testing.T) {
	const n = 1 << 16
	long := strings.Repeat("a", n)
	words, redirs, items := make([]api.Word, n), make([]api.Redir, n), make([]api.Item, n)
	for i := range n {
		words[i], redirs[i], items[i] = a.Words[0], raw(0, "E\n"), item(nil, "a")
	}
	lit := api.Word{{Kind: api.Lit, Text: long}}
	refused(t, api.Cmd{Kind: api.Simple, Words: []api.Word{lit}}, with(a, api.Redir{Kind: api.Out, Word: lit}), function(long, of(api.Group, a)), every(long, a), api.Cmd{Kind: api.Simple, Lets: []api.Let{let(long, "1")}},
		with(a, raw(0, strings.Repeat("E\n", n))), with(a, raw(0, long)), with(a, raw(0, long+"\n")), api.Cmd{Kind: api.Simple, Words: words}, with(a, redirs...), with(of(api.Group, a), redirs...), choice("a", items...), of(api.Group, many(n)...), of(api.Seq, many(n)...), of(api.Pipe, many(n)...))
}

// many is n commands.
func many(n int) []api.Cmd {
	l := make([]api.Cmd, n)
	for i := range l {
		l[i] = a
	}
	return l
}
