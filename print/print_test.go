package print_test

import (
	"slices"
	"strconv"
	"strings"
	"testing"

	"conch/api"
	"conch/parse"
)

// P7.1: a Simple: Lets, redirections, Words, in that order.
func TestSimple(t *testing.T) {
	check(t,
		pair{a, "a"},
		pair{s("a", "b", "'b c'"), "a b 'b c'"},
		pair{s("a", `"b c"`, "$x", `"$y"`, `\d`, "''", "$(e f)", "$((1+2))", "${x:-'a b'}"), `a 'b c' ${x} "${y}" 'd' '' $(e f) $((1+2)) ${x:-'a b'}`},
		pair{api.Cmd{Kind: api.Simple, Lets: []api.Let{let("x", "1")}}, "x=1"},
		pair{api.Cmd{Kind: api.Simple, Lets: []api.Let{let("x", "1"), let("y", ""), let("_z", "'a b'$x")}}, "x=1 y= _z='a b'${x}"},
		pair{with(api.Cmd{Kind: api.Simple}, to(1, api.Out, "f")), "1>f"},
		pair{with(a, to(1, api.Out, "f")), "1>f a"},
		pair{api.Cmd{Kind: api.Simple, Lets: []api.Let{let("x", "1"), let("y", "2")}, Redirs: []api.Redir{to(0, api.In, "f"), to(2, api.Dup, "1")}, Words: s("a", "b").Words}, "x=1 y=2 0<f 2>&1 a b"},
		pair{api.Cmd{Kind: api.Simple, Lets: []api.Let{let("x", "1")}, Words: s("a", "x=1", "y=").Words}, "x=1 a x=1 y="},
		pair{api.Cmd{Kind: api.Simple, Lets: []api.Let{let("x", "1")}, Redirs: []api.Redir{to(0, api.In, "f")}}, "x=1 0<f"},
		pair{with(s("if", "then"), to(1, api.Out, "f")), "1>f if then"},
		pair{api.Cmd{Kind: api.Simple, Lets: []api.Let{let("if", "{")}, Words: s("fi").Words}, "if={ fi"},
		pair{s("'if'"), "'if'"},
		pair{s("in", "if", "2"), "in if 2"},
		pair{with(s("2", "3"), to(4, api.In, "5")), "4<5 2 3"},
		pair{s("'a\nb'", "c"), "'a\nb' c"},
		pair{s("a", "$(b <<E\nc\nE\n)"), "a $(b <<E\nc\nE\n)"},
		pair{api.Cmd{Kind: api.Simple, Lets: []api.Let{let("x", "#")}}, "x=#"},
	)
	// An empty list may be nil or not.
	empty := a
	empty.Lets, empty.Redirs, empty.Cmds, empty.Items = []api.Let{}, []api.Redir{}, []api.Cmd{}, []api.Item{}
	check(t, pair{empty, "a"})
}

// P7.1: each Kind of a redirection, with each number that may be.
func TestRedirections(t *testing.T) {
	for kind, sign := range map[int]string{api.In: "<", api.Out: ">", api.More: ">>", api.Both: "<>", api.Dup: ">&"} {
		for _, fd := range []int{0, 1, 2, 9, 10, 999} {
			check(t,
				pair{with(a, to(fd, kind, "f")), strconv.Itoa(fd) + sign + "f a"},
				pair{with(of(api.Subshell, a), to(fd, kind, "'f g'$x")), "(a) " + strconv.Itoa(fd) + sign + "'f g'${x}"},
			)
		}
		refused(t, with(a, to(1000, kind, "f")), with(a, to(-1, kind, "f")), with(a, to(0, kind, "")), with(a, to(-1<<63, kind, "f")), with(a, to(1<<63-1, kind, "f")), with(of(api.Group, a), to(1000, kind, "f")))
	}
	for _, kind := range []int{0, -1, 7, 9, -1 << 63, 1<<63 - 1} {
		refused(t, with(a, to(0, kind, "f")), with(of(api.Subshell, a), to(0, kind, "f")), with(a, to(0, api.In, "f"), to(0, kind, "f")), of(api.Seq, a, with(b, to(0, kind, ""))))
	}
}

// behind is what can be printed with redirections behind it, and its text without them.
func behind() []pair {
	return []pair{
		{of(api.Group, a), "{ a; }"},
		{of(api.Subshell, a), "(a)"},
		{of(api.If, a, b), "if a; then b; fi"},
		{of(api.If, a, b, c), "if a; then b; else c; fi"},
		{of(api.If, a, b, of(api.If, c, d)), "if a; then b; elif c; then d; fi"},
		{of(api.While, a, b), "while a; do b; done"},
		{of(api.Until, a, b), "until a; do b; done"},
		{every("i", a), "for i; do a; done"},
		{each("i", a), "for i in; do a; done"},
		{each("i", a, "b"), "for i in b; do a; done"},
		{choice("a"), "case a in esac"},
		{choice("a", item(nil, "b")), "case a in (b) ;; esac"},
		{function("f", of(api.Group, a)), "f() { a; }"},
		{function("f", of(api.Subshell, a)), "f() (a)"},
	}
}

// P7.1: Redirs behind each kind that has them, and none behind others.
func TestRedirsBehind(t *testing.T) {
	for _, p := range behind() {
		check(t, p,
			pair{with(p.cmd, to(1, api.Out, "f")), p.want + " 1>f"},
			pair{with(p.cmd, to(0, api.In, "f"), to(2, api.Dup, "1"), to(3, api.More, "'g h'")), p.want + " 0<f 2>&1 3>>'g h'"},
			pair{with(p.cmd, raw(0, "a\n"), to(2, api.Both, "f")), p.want + " 0<<'E' 2<>f\na\nE\n"},
			pair{of(api.Pipe, with(p.cmd, to(1, api.Out, "f")), a), p.want + " 1>f | a"},
			pair{of(api.Group, with(p.cmd, to(1, api.Out, "f"))), "{ " + p.want + " 1>f; }"},
		)
	}
	for _, kind := range []int{api.Pipe, api.And, api.Or, api.Seq} {
		check(t, pair{of(kind, a, with(of(api.Subshell, b), to(1, api.Out, "f"))), map[int]string{api.Pipe: "a | (b) 1>f", api.And: "a && (b) 1>f", api.Or: "a || (b) 1>f", api.Seq: "a; (b) 1>f"}[kind]})
		refused(t, with(of(kind, a, b), to(1, api.Out, "f")), with(of(kind, a, of(api.Subshell, b)), to(1, api.Out, "f")), with(not(a), to(1, api.Out, "f")))
	}
}

// P7.1: Pipe, And, Or and Seq.
func TestJoined(t *testing.T) {
	check(t,
		pair{of(api.Pipe, a, b), "a | b"},
		pair{of(api.Pipe, a, b, c), "a | b | c"},
		pair{not(a), "! a"},
		pair{not(a, b), "! a | b"},
		pair{not(of(api.Group, not(a))), "! { ! a; }"},
		pair{of(api.Pipe, of(api.Group, of(api.Pipe, a, b)), c), "{ a | b; } | c"},
		pair{of(api.And, a, b), "a && b"},
		pair{of(api.Or, a, b), "a || b"},
		pair{of(api.And, of(api.And, a, b), c), "a && b && c"},
		pair{of(api.Or, of(api.Or, a, b), c), "a || b || c"},
		pair{of(api.And, of(api.Or, a, b), c), "a || b && c"},
		pair{of(api.Or, of(api.And, a, of(api.Pipe, b, c)), not(d)), "a && b | c || ! d"},
		pair{of(api.Seq, a, b), "a; b"},
		pair{of(api.Seq, a, b, c, d), "a; b; c; d"},
		pair{of(api.Seq, of(api.And, a, b), of(api.Pipe, c, d)), "a && b; c | d"},
		pair{of(api.Seq, a, of(api.Group, of(api.Seq, b, c))), "a; { b; c; }"},
		pair{of(api.And, of(api.Subshell, a), of(api.Or, b, c)), ""},
	)
	refused(t, of(api.Pipe), not(), of(api.Pipe, a), of(api.And), of(api.And, a), of(api.And, a, b, c), of(api.Or), of(api.Or, a), of(api.Or, a, b, c), of(api.Seq), of(api.Seq, a),
		of(api.Pipe, of(api.Pipe, a, b), c), of(api.Pipe, a, of(api.Pipe, b, c)), of(api.Pipe, of(api.And, a, b), c), of(api.Pipe, a, of(api.Seq, b, c)), of(api.Pipe, a, not(b)), not(not(a)), of(api.Pipe, not(a), b),
		of(api.And, a, of(api.And, b, c)), of(api.Or, a, of(api.Or, b, c)), of(api.And, a, of(api.Seq, b, c)), of(api.And, of(api.Seq, a, b), c), of(api.Seq, of(api.Seq, a, b), c), of(api.Seq, a, of(api.Seq, b, c)), of(api.Seq, a, api.Cmd{}))
}

// P7.1: Group and Subshell.
func TestEnclosed(t *testing.T) {
	check(t,
		pair{of(api.Group, a), "{ a; }"},
		pair{of(api.Group, of(api.Seq, a, b)), "{ a; b; }"},
		pair{of(api.Group, of(api.Group, a)), "{ { a; }; }"},
		pair{of(api.Subshell, a), "(a)"},
		pair{of(api.Subshell, of(api.Seq, a, b)), "(a; b)"},
		pair{of(api.Subshell, of(api.Subshell, a)), "((a))"},
		pair{of(api.Subshell, of(api.Group, not(a))), "({ ! a; })"},
		pair{of(api.Group, of(api.Subshell, s("2"))), "{ (2); }"},
	)
	refused(t, of(api.Group), of(api.Subshell), of(api.Group, a, b), of(api.Subshell, a, b), of(api.Subshell, with(api.Cmd{Kind: api.Simple}, to(1, api.Out, "f")), b))
}

// P7.1: If of two and of three Cmds, with an elif and with an else.
func TestIf(t *testing.T) {
	inner := of(api.If, c, d)
	check(t,
		pair{of(api.If, a, b), "if a; then b; fi"},
		pair{of(api.If, a, b, c), "if a; then b; else c; fi"},
		pair{of(api.If, a, b, inner), "if a; then b; elif c; then d; fi"},
		pair{of(api.If, a, b, of(api.If, c, d, e)), "if a; then b; elif c; then d; else e; fi"},
		pair{of(api.If, a, b, of(api.If, c, d, of(api.If, e, a))), "if a; then b; elif c; then d; elif e; then a; fi"},
		pair{of(api.If, a, b, with(inner, to(1, api.Out, "f"))), "if a; then b; else if c; then d; fi 1>f; fi"},
		pair{with(of(api.If, a, b, with(inner, to(1, api.Out, "f"))), to(2, api.Out, "g")), "if a; then b; else if c; then d; fi 1>f; fi 2>g"},
		pair{with(of(api.If, a, b, inner), to(2, api.Out, "g")), "if a; then b; elif c; then d; fi 2>g"},
		pair{of(api.If, a, b, of(api.If, c, d, with(of(api.If, e, a), to(1, api.Out, "f")))), "if a; then b; elif c; then d; else if e; then a; fi 1>f; fi"},
		pair{of(api.If, a, b, of(api.Seq, inner, e)), "if a; then b; else if c; then d; fi; e; fi"},
		pair{of(api.If, a, b, not(inner)), "if a; then b; else ! if c; then d; fi; fi"},
		pair{of(api.If, inner, inner, inner), "if if c; then d; fi; then if c; then d; fi; elif c; then d; fi"},
		pair{of(api.If, of(api.Seq, a, b), of(api.Seq, b, c), of(api.Seq, c, d)), "if a; b; then b; c; else c; d; fi"},
	)
	empty := of(api.If, c, d)
	empty.Redirs = []api.Redir{}
	check(t, pair{of(api.If, a, b, empty), "if a; then b; elif c; then d; fi"})
	for _, bad := range []api.Cmd{of(api.If), of(api.If, a), of(api.If, a, b, c, d), of(api.If, a, b, inner, inner), of(api.If, a, b, c, d, e)} {
		refused(t, bad, of(api.If, a, b, bad), of(api.If, a, b, of(api.If, a, b, bad)), of(api.If, a, b, with(bad, to(1, api.Out, "f"))), with(bad, to(1, api.Out, "f")), of(api.Group, bad), of(api.If, bad, b), of(api.If, a, bad))
	}
}

// P7.1: While and Until have two Cmds.
func TestLoops(t *testing.T) {
	for kind, name := range map[int]string{api.While: "while", api.Until: "until"} {
		check(t,
			pair{of(kind, a, b), name + " a; do b; done"},
			pair{of(kind, of(api.Seq, a, b), of(api.Seq, c, d)), name + " a; b; do c; d; done"},
			pair{of(kind, of(kind, a, b), of(kind, c, d)), name + " " + name + " a; do b; done; do " + name + " c; do d; done; done"},
		)
		refused(t, of(kind), of(kind, a), of(kind, a, b, c), of(kind, a, api.Cmd{}), of(kind, api.Cmd{}, a))
	}
}

// P7.1: For with Every, with no Words, and with several.
func TestFor(t *testing.T) {
	check(t,
		pair{every("i", a), "for i; do a; done"},
		pair{each("i", a), "for i in; do a; done"},
		pair{each("i", a, "b"), "for i in b; do a; done"},
		pair{each("_x1", a, "b", "'c d'", "$x", "do", "in", "2"), "for _x1 in b 'c d' ${x} do in 2; do a; done"},
		pair{each("in", of(api.Seq, a, b), "c"), "for in in c; do a; b; done"},
		pair{every("do", every("i", a)), "for do; do for i; do a; done; done"},
	)
	both := every("i", a)
	both.Words = s("b").Words
	none, two := each("i", a, "b"), each("i", a, "b")
	none.Cmds, two.Cmds = nil, []api.Cmd{a, b}
	refused(t, both, none, two, every("", a), every("1", a), every("a b", a), every("i;", a), every("i in", a), each("$x", a), each("'i'", a), every("a-b", a))
}

// P7.1: Case with no items and with several, and with an empty Body.
func TestCase(t *testing.T) {
	one := []api.Cmd{c}
	check(t,
		pair{choice("a"), "case a in esac"},
		pair{choice("$x", item(one, "b")), "case ${x} in (b) c;; esac"},
		pair{choice("$x", item(one, "a", "'b c'", "*"), item(nil, "*")), "case ${x} in (a|'b c'|*) c;; (*) ;; esac"},
		pair{choice("a", item(nil, "b"), item([]api.Cmd{}, "c"), item(one, "esac")), "case a in (b) ;; (c) ;; (esac) c;; esac"},
		pair{choice("esac", item([]api.Cmd{of(api.Seq, a, b)}, "in", "esac")), "case esac in (in|esac) a; b;; esac"},
		pair{choice("a", item([]api.Cmd{choice("b", item(one, "c"))}, "d")), "case a in (d) case b in (c) c;; esac;; esac"},
		pair{choice("a", item([]api.Cmd{with(b, raw(0, "x\n"))}, "b"), item([]api.Cmd{with(c, raw(0, "y\n"))}, "c")), "case a in (b) 0<<'E' b;; (c) 0<<'E' c;; esac\nx\nE\ny\nE\n"},
	)
	none, two := choice("a"), choice("a")
	none.Words, two.Words = nil, s("a", "b").Words
	refused(t, none, two, choice("a", item(nil)), choice("a", item(one)), choice("a", item(one, "")), choice("a", item(one, "a", "")), choice(""), choice("a", item([]api.Cmd{a, b}, "c")), choice("a", item([]api.Cmd{{}}, "c")))
}

// P7.1: Func: of commands of the kinds that may be one's, without Redirs of their own.
func TestFunc(t *testing.T) {
	for _, p := range behind() {
		if p.cmd.Kind == api.Func {
			refused(t, function("f", p.cmd))
			continue
		}
		f := function("f", p.cmd)
		check(t, pair{f, "f() " + p.want}, pair{with(f, to(1, api.Out, "f")), "f() " + p.want + " 1>f"}, pair{of(api.Seq, f, a), "f() " + p.want + "; a"}, pair{function("in", p.cmd), "in() " + p.want})
		refused(t, function("f", with(p.cmd, to(1, api.Out, "f"))), function("if", p.cmd), function("", p.cmd), function("1", p.cmd), function("f g", p.cmd), function("f()", p.cmd), of(api.Func), api.Cmd{Kind: api.Func, Name: "f"}, api.Cmd{Kind: api.Func, Name: "f", Cmds: []api.Cmd{p.cmd, p.cmd}})
	}
	refused(t, function("f", a), function("f", of(api.Pipe, a, b)), function("f", of(api.And, of(api.Group, a), of(api.Group, b))), function("f", of(api.Seq, of(api.Group, a), b)), function("f", not(of(api.Group, a))))
}

// P7.1: another Kind, words that can't be written, fields that a kind has not.
func TestRefuses(t *testing.T) {
	for _, kind := range []int{0, -1, 14, 15, 99, -1 << 63, 1<<63 - 1} {
		refused(t, of(kind), of(kind, a), of(kind, a, b), of(api.Group, of(kind, a)), of(api.Seq, a, of(kind, b)))
	}
	for _, odd := range []api.Word{{{Kind: api.Lit, Text: "a b"}}, nil, {}, {{}}, {{Kind: 9, Text: "a"}}, {{Kind: api.Lit, Text: "$x"}}, {{Kind: api.Lit, Text: "a"}, {Kind: api.Lit, Text: "b"}}, {{Kind: api.Lit, Text: "a;"}}, {{Kind: api.Lit, Text: "a\n"}}, {{Kind: api.Lit, Text: "a", Op: 2}}, {{Kind: api.Lit, Text: strings.Repeat("a", 4097)}}} {
		refused(t, api.Cmd{Kind: api.Simple, Words: []api.Word{odd}}, api.Cmd{Kind: api.Simple, Words: []api.Word{w("a"), odd}}, with(a, api.Redir{Kind: api.In, Word: odd}), with(of(api.Group, a), api.Redir{Kind: api.In, Word: odd}),
			api.Cmd{Kind: api.For, Name: "i", Words: []api.Word{odd}, Cmds: []api.Cmd{a}}, api.Cmd{Kind: api.Case, Words: []api.Word{odd}}, api.Cmd{Kind: api.Case, Words: []api.Word{w("a")}, Items: []api.Item{{Words: []api.Word{odd}}}})
		if len(odd) > 0 {
			refused(t, api.Cmd{Kind: api.Simple, Lets: []api.Let{{Name: "x", Word: odd}}})
		}
	}
	// Each field that its kind has not, on a command that could be printed without it.
	for _, p := range append(behind(), pair{a, ""}, pair{of(api.Pipe, a, b), ""}, pair{of(api.And, a, b), ""}, pair{of(api.Seq, a, b), ""}) {
		kind := p.cmd.Kind
		for i, set := range []func(c *api.Cmd){
			func(c *api.Cmd) { c.Not = true },
			func(c *api.Cmd) { c.Lets = []api.Let{let("x", "1")} },
			func(c *api.Cmd) { c.Name = "f" },
			func(c *api.Cmd) { c.Every = true },
			func(c *api.Cmd) { c.Items = []api.Item{item(nil, "b")} },
			func(c *api.Cmd) { c.Words = s("f").Words },
			func(c *api.Cmd) { c.Cmds = []api.Cmd{a} },
		} {
			has := [][]int{{api.Pipe}, {api.Simple}, {api.For, api.Func}, {api.For}, {api.Case}, {api.Simple, api.For, api.Case}, {api.Pipe, api.And, api.Or, api.Seq, api.Group, api.Subshell, api.If, api.While, api.Until, api.For, api.Func}}[i]
			other := p.cmd
			set(&other)
			if !slices.Contains(has, kind) {
				refused(t, other)
			}
		}
	}
}

// P7.1: commands whose text is parsed as another one, or not at all.
func TestParsedAsAnother(t *testing.T) {
	plain := func(texts ...string) api.Cmd {
		c := api.Cmd{Kind: api.Simple}
		for _, text := range texts {
			c.Words = append(c.Words, api.Word{{Kind: api.Lit, Text: text}})
		}
		return c
	}
	refused(t, plain("if"), plain("!"), plain("{"), plain("}", "a"), plain("fi"), plain("x=1"), plain("x="), plain("x=1", "a"), plain("#"), plain("a", "#"), plain("a", "#b", "c"), plain("#a"),
		api.Cmd{Kind: api.Simple}, api.Cmd{Kind: api.Simple, Lets: []api.Let{let("", "1")}}, api.Cmd{Kind: api.Simple, Lets: []api.Let{let("1", "1")}}, api.Cmd{Kind: api.Simple, Lets: []api.Let{let("x=y", "1")}}, api.Cmd{Kind: api.Simple, Lets: []api.Let{let("x y", "1")}},
		api.Cmd{Kind: api.Simple, Lets: []api.Let{let("a\nx", "1")}}, api.Cmd{Kind: api.Simple, Lets: []api.Let{let("a;x", "1")}},
		with(a, api.Redir{Kind: api.In, Word: api.Word{{Kind: api.Lit, Text: "#"}}}), every("i; do b; done; for i", a), function("g() { a; }; f", of(api.Group, a)), function("a\nf", of(api.Group, a)))
	check(t, pair{plain("a", "if", "x=1", "a#", "!", "{", "}"), "a if x=1 a# ! { }"})
	// A \ with a byte 10 behind it is nothing, so words that are like others without it are not to be written.
	for _, script := range []string{"i\\\nf a", "x\\\n=1", "x\\\n=1 a", "{\\\n a", "f\\\ni", "a <<E\nb\\\nE\n"} {
		l, _, e := parse.Parse(script)
		if e != api.OK || len(l) != 1 {
			t.Fatalf("Parse(%q): %v", script, e)
		}
		refused(t, l[0])
	}
}

// P7.1, P7.2: the document's examples.
func TestExamples(t *testing.T) {
	for script, want := range map[string]string{
		`a "b c" >f&&b`:                `1>f a 'b c' && b`,
		"if a;then b;elif c;then d;fi": "if a; then b; elif c; then d; fi",
		"a <<X\n$x\nX":                 "0<<E a\n${x}\nE\n",
	} {
		l, _, _ := parse.Parse(script)
		if len(l) != 1 {
			t.Fatalf("Parse(%q): %d commands", script, len(l))
		}
		check(t, pair{l[0], want})
	}
	refused(t, of(api.Pipe, a))
}
