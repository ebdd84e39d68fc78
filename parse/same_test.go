package parse_test

import (
	"testing"

	"conch/api"
	"conch/parse"
)

// lit is a word of one Lit.
func lit(text string) api.Word { return api.Word{{Kind: api.Lit, Text: text}} }

// full is a command with something in all fields, also where the kind has none, and within them, some levels deep.
func full(deep int) api.Cmd {
	c := api.Cmd{
		Kind: api.Case, Not: true, Name: "n", Every: true,
		Lets:   []api.Let{{Name: "x", Word: lit("a")}, {Name: "y", Word: lit("b")}},
		Words:  []api.Word{lit("c"), {{Kind: api.Var, Text: "d", Quote: true, Op: api.Default, Colon: true, Word: lit("e")}}},
		Redirs: []api.Redir{{Fd: 1, Kind: api.Out, Word: lit("f")}, {Fd: 2, Kind: api.In, Word: lit("g")}},
		Cmds:   []api.Cmd{{Kind: api.Simple, Words: []api.Word{lit("h")}}, {Kind: api.Pipe}},
		Items:  []api.Item{{Words: []api.Word{lit("i"), lit("j")}, Body: []api.Cmd{{Kind: api.Simple, Words: []api.Word{lit("k")}}}}, {Words: []api.Word{lit("l")}}},
	}
	if deep > 0 {
		c.Cmds[1] = full(deep - 1)
		c.Items[1].Body = []api.Cmd{full(deep - 1)}
	}
	return c
}

// changes change a command of full in one thing each.
var changes = map[string]func(c *api.Cmd){
	"Kind":               func(c *api.Cmd) { c.Kind = api.For },
	"no Kind":            func(c *api.Cmd) { c.Kind = -1 },
	"Not":                func(c *api.Cmd) { c.Not = false },
	"Name":               func(c *api.Cmd) { c.Name = "m" },
	"no Name":            func(c *api.Cmd) { c.Name = "" },
	"Every":              func(c *api.Cmd) { c.Every = false },
	"Lets, fewer":        func(c *api.Cmd) { c.Lets = c.Lets[:1] },
	"Lets, none":         func(c *api.Cmd) { c.Lets = nil },
	"Lets, in order":     func(c *api.Cmd) { c.Lets[0], c.Lets[1] = c.Lets[1], c.Lets[0] },
	"a Let's Name":       func(c *api.Cmd) { c.Lets[1].Name = "z" },
	"a Let's Word":       func(c *api.Cmd) { c.Lets[1].Word = lit("z") },
	"a Let's empty Word": func(c *api.Cmd) { c.Lets[0].Word = nil },
	"Words, fewer":       func(c *api.Cmd) { c.Words = c.Words[:1] },
	"Words, more":        func(c *api.Cmd) { c.Words = append(c.Words, lit("z")) },
	"Words, an empty":    func(c *api.Cmd) { c.Words = append(c.Words, nil) },
	"Words, none":        func(c *api.Cmd) { c.Words = nil },
	"a Word":             func(c *api.Cmd) { c.Words[0] = lit("z") },
	"a Word's Quote":     func(c *api.Cmd) { c.Words[0][0].Quote = true },
	"a Word's Op":        func(c *api.Cmd) { c.Words[1][0].Op = api.Assign },
	"a Word's Colon":     func(c *api.Cmd) { c.Words[1][0].Colon = false },
	"a Word's Word":      func(c *api.Cmd) { c.Words[1][0].Word = lit("z") },
	"Redirs, fewer":      func(c *api.Cmd) { c.Redirs = c.Redirs[1:] },
	"Redirs, none":       func(c *api.Cmd) { c.Redirs = nil },
	"Redirs, in order":   func(c *api.Cmd) { c.Redirs[0], c.Redirs[1] = c.Redirs[1], c.Redirs[0] },
	"a Redir's Fd":       func(c *api.Cmd) { c.Redirs[1].Fd = 3 },
	"a Redir's Kind":     func(c *api.Cmd) { c.Redirs[1].Kind = api.Both },
	"a Redir's Word":     func(c *api.Cmd) { c.Redirs[1].Word = lit("z") },
	"Cmds, fewer":        func(c *api.Cmd) { c.Cmds = c.Cmds[:1] },
	"Cmds, none":         func(c *api.Cmd) { c.Cmds = nil },
	"Cmds, more":         func(c *api.Cmd) { c.Cmds = append(c.Cmds, api.Cmd{}) },
	"Cmds, in order":     func(c *api.Cmd) { c.Cmds[0], c.Cmds[1] = c.Cmds[1], c.Cmds[0] },
	"a Cmd":              func(c *api.Cmd) { c.Cmds[0].Kind = api.Group },
	"a Cmd's Word":       func(c *api.Cmd) { c.Cmds[0].Words[0] = lit("z") },
	"Items, fewer":       func(c *api.Cmd) { c.Items = c.Items[:1] },
	"Items, none":        func(c *api.Cmd) { c.Items = nil },
	"Items, more":        func(c *api.Cmd) { c.Items = append(c.Items, api.Item{}) },
	"an Item's Words":    func(c *api.Cmd) { c.Items[0].Words = c.Items[0].Words[:1] },
	"an Item's Word":     func(c *api.Cmd) { c.Items[0].Words[1] = lit("z") },
	"an Item's no Body":  func(c *api.Cmd) { c.Items[0].Body = nil },
	"an Item's Body":     func(c *api.Cmd) { c.Items[0].Body[0].Words[0] = lit("z") },
	"an Item's two":      func(c *api.Cmd) { c.Items[0].Body = append(c.Items[0].Body, api.Cmd{}) },
}

// P6.2: commands that differ in one thing, also within others, are not the same.
func TestSameChanges(t *testing.T) {
	for deep := range 4 {
		if !parse.Same(full(deep), full(deep)) {
			t.Errorf("two of %d", deep)
		}
		if parse.Same(full(deep), full(deep+1)) || parse.Same(full(deep+1), full(deep)) {
			t.Errorf("one of %d, one of %d", deep, deep+1)
		}
		for name, change := range changes {
			within := func(step func(c *api.Cmd) *api.Cmd) {
				t.Helper()
				a, b := full(deep), full(deep)
				inner := &b
				for range deep {
					inner = step(inner)
				}
				change(inner)
				if parse.Same(a, b) || parse.Same(b, a) || !parse.Same(b, b) {
					t.Errorf("%s, %d deep", name, deep)
				}
			}
			within(func(c *api.Cmd) *api.Cmd { return &c.Cmds[1] })
			within(func(c *api.Cmd) *api.Cmd { return &c.Items[1].Body[0] })
		}
	}
}

// P6.2: an empty list may be nil or not.
func TestSameEmpty(t *testing.T) {
	empty := api.Cmd{Lets: []api.Let{}, Words: []api.Word{}, Redirs: []api.Redir{}, Cmds: []api.Cmd{}, Items: []api.Item{}}
	if !parse.Same(api.Cmd{}, empty) || !parse.Same(empty, api.Cmd{}) || !parse.Same(empty, empty) || !parse.Same(api.Cmd{}, api.Cmd{}) {
		t.Error("lists of a command")
	}
	with := func(w api.Word, l []api.Word, c []api.Cmd) api.Cmd {
		return api.Cmd{
			Kind: api.Simple, Lets: []api.Let{{Name: "x", Word: w}}, Words: []api.Word{w, {{Kind: api.Var, Word: w}}}, Redirs: []api.Redir{{Word: w}},
			Cmds: []api.Cmd{{Cmds: c, Words: l}}, Items: []api.Item{{Words: l, Body: c}},
		}
	}
	a, b := with(nil, nil, nil), with(api.Word{}, []api.Word{}, []api.Cmd{})
	if !parse.Same(a, b) || !parse.Same(b, a) {
		t.Error("lists within lists")
	}
	if c := with(api.Word{{}}, nil, nil); parse.Same(a, c) || parse.Same(c, a) {
		t.Error("a word of an empty part")
	}
	if c := with(nil, []api.Word{nil}, nil); parse.Same(a, c) || parse.Same(c, a) {
		t.Error("a list of an empty word")
	}
	if c := with(nil, nil, []api.Cmd{{}}); parse.Same(a, c) || parse.Same(c, a) {
		t.Error("a list of an empty command")
	}
}

// P6.2: scripts whose commands are the same, or not.
func TestSameScripts(t *testing.T) {
	for _, c := range []struct {
		a, b string
		same bool
	}{
		{"a b", "a  b", true}, {"a 'b'", "a \"b\"", true}, {"a b", "a 'b'", false}, {"a b", "a c", false}, {"a b", "a", false}, {"a b", "b a", false},
		{"a", "! a", false}, {"a", "{ a; }", false}, {"{ a; }", "(a)", false}, {"a|b", "a&&b", false}, {"a&&b", "a||b", false}, {"a;b", "(a;b)", false},
		{"x=1", "x=2", false}, {"x=1", "y=1", false}, {"x=1 y=2", "y=2 x=1", false}, {"x=1", "'x=1'", false}, {"x=", "x=''", false},
		{"a >f", "a >>f", false}, {"a >f", "a 1>f", true}, {"a >f", "a 2>f", false}, {"a >f b", "a b >f", true}, {">f x=1 a", "x=1 >f a", true}, {"a >&1", "a 1<&1", true},
		{"a <f", "a <g", false}, {"a <f >g", "a >g <f", false}, {"a <<E\nb\nE\n", "a <<F\nb\nF\n", true}, {"a <<E\nb\nE\n", "a <<'E'\nb\nE\n", true}, {"a <<E\nb\nE\n", "a <<E\nc\nE\n", false},
		{"a <<E\nE\n", "a <<'E'\nE\n", false}, {"if a; then b; fi", "if a\nthen b\nfi", true}, {"if a; then b; fi", "if a; then b; else c; fi", false},
		{"if a; then b; elif c; then d; fi", "if a; then b; else if c; then d; fi; fi", true}, {"if a; then b; fi", "if b; then a; fi", false},
		{"while a; do b; done", "until a; do b; done", false}, {"for i do a; done", "for i; do a; done", true}, {"for i do a; done", "for i in; do a; done", false},
		{"for i do a; done", "for j do a; done", false}, {"for i in a; do a; done", "for i in b; do a; done", false}, {"case a in b) c;; esac", "case a in (b) c; esac", true},
		{"case a in b) c;; esac", "case a in b) ;; esac", false}, {"case a in b) c;; esac", "case a in b|b) c;; esac", false}, {"case a in esac", "case b in esac", false},
		{"case a in b|c) d;; esac", "case a in b) d;; c) d;; esac", false}, {"f() { a; }", "f ( )\n{ a\n}", true}, {"f() { a; }", "g() { a; }", false}, {"f() { a; }", "f() (a)", false},
		{"f() { a; } >g", "f() { a; }", false}, {"f() { a; } >g", "f() { a >g; }", false}, {"! a|b", "a|b", false}, {"a && b && c", "a && { b && c; }", false},
	} {
		l, _, e := parse.Parse(c.a)
		m, _, f := parse.Parse(c.b)
		if e != api.OK || f != api.OK || len(l) != 1 || len(m) != 1 || parse.Same(l[0], m[0]) != c.same || parse.Same(m[0], l[0]) != c.same {
			t.Errorf("%q, %q: %v %v", c.a, c.b, e, f)
		}
	}
}

// P6.2: commands within one another, as deep as the limits have it.
func TestSameDeep(t *testing.T) {
	nested := func(inner string) api.Cmd {
		c := api.Cmd{Kind: api.Simple, Words: []api.Word{lit(inner)}}
		for i := range 1 << 16 {
			if i%2 == 0 {
				c = api.Cmd{Kind: api.Group, Cmds: []api.Cmd{c}}
			} else {
				c = api.Cmd{Kind: api.Case, Items: []api.Item{{Body: []api.Cmd{c}}}}
			}
		}
		return c
	}
	if !parse.Same(nested("a"), nested("a")) || parse.Same(nested("a"), nested("b")) {
		t.Error("commands that are deep")
	}
}
