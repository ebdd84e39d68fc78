package parse_test

import (
	"strings"
	"testing"

	"conch/chars"
)

// The chapter's examples.
func TestExamples(t *testing.T) {
	check(t, map[string]string{
		"a b; ! c | d":             "seq(s a b)(pipe!(s c)(s d))",
		"x=1 a >f 2>&1":            "s x:=1 a 1>f 2&1",
		"if a; then b; fi":         "if(s a)(s b)",
		"for i in 1 2; do a; done": "for:i 1 2(s a)",
		"a\nb )":                   "s a !syntax 4",
		"if a":                     " !syntax 4",
	})
}

// P6.1: ordinary scripts.
func TestScripts(t *testing.T) {
	check(t, map[string]string{
		"":    "",
		"a":   "s a",
		"a\n": "s a",
		"echo \"hello $name\" 'it is' >>log 2>&1\n": "s echo 'hello ''var{name0 }' 'it is' 1>>log 2&1",
		"x=1; y=$((x+1))\necho $x ${y:-none}":       "seq(s x:=1)(s y:=sum{x+10 }); s echo var{x0 } var{y-: none}",
		"for f in *.c a$(b)\ndo\n\tif test -f $f && ! grep -q x <$f; then\n\t\techo $f\n\telse\n\t\tcontinue\n\tfi\ndone | sort >out": "pipe(for:f *.c arun{b0 }(if(and(s test -f var{f0 })(pipe!(s grep -q x 0<var{f0 })))(s echo var{f0 })(s continue)))(s sort 1>out)",
		"f() {\n  while read x; do echo \"$x\"; done\n}\n\n# a call\nf <in # now\n":                                                   "func:f(group(while(s read x)(s echo 'var{x0 }'))); s f 0<in",
		"case $1 in\n-h|--help) usage; exit;;\n'') ;;\n(*)\n  run \"$@\"\nesac":                                                       "case var{10 }[-h|--help| seq(s usage)(s exit)][''|][*| s run 'var{@0 }']",
		"until a; do (cd d && b) || { c; d; }; done":                                                                                  "until(s a)(or(sub(and(s cd d)(s b)))(group(seq(s c)(s d))))",
		"cat <<A - <<'B'\n$x\nA\n$y\nB\necho":                                                                                         "s cat - 0<<'var{x0 }''\n' 0<<'$y\n'; s echo",
	})
}

// P6.1: a Newline where a line might begin is passed over.
func TestEmptyLines(t *testing.T) {
	check(t, map[string]string{
		"\n": "", "\n\n\n": "", " \t": "", "# a": "", "# a\n": "", "\n# a\n\n#b": "", "\\\n": "", "\n \\\n\n": "",
		"\na": "s a", "\n\n a\n\n\nb\n\n": "s a; s b", "a\n# c\nb": "s a; s b", "a # b\n\n": "s a", "a;\n\n;": "s a !syntax 4",
	})
}

// P6.1: a line of one and of more and-or lists, with and without a ; behind the last.
func TestLines(t *testing.T) {
	checkSame(t, "s a", "a", "a;", "a ;", "a\n", "a;\n", "a ; \n", "a; # b", "a;\\\n")
	checkSame(t, "seq(s a)(s b)", "a;b", "a;b;", "a ; b\n", "a;b;\n", "a; b; # c\n")
	checkSame(t, "seq(s a)(s b)(s c)", "a;b;c", "a;b;c;\n")
	checkSame(t, "s a; s b", "a\nb", "a;\nb;", "a\n\nb\n\n", "a;\n\n\nb;\n")
	checkSame(t, "seq(s a)(s b); seq(s c)(s d); s e", "a;b\nc;d;\ne")
	checkSame(t, "seq(and(s a)(s b))(or(s c)(s d))", "a&&b;c||d", "a && b ; c || d;\n")
	check(t, map[string]string{
		";": " !syntax 0", "a;;": " !syntax 1", "a; ;": " !syntax 3", "a;b;;c": " !syntax 3", "a\n;": "s a !syntax 2", ";a": " !syntax 0",
		"a;\n;b": "s a !syntax 3", "a)": " !syntax 1", "a;)": " !syntax 2", "a;}": " !syntax 2", "a; then": " !syntax 3", "a\nfi": "s a !syntax 2",
	})
}

// P6.1: a list within another command, of one and of more and-or lists, with gaps and ends of several Newlines.
func TestLists(t *testing.T) {
	checkSame(t, "sub(s a)", "(a)", "( a )", "(a;)", "(a\n)", "(\na)", "(\n\n\na\n\n\n)", "(a;\n\n)", "(a # )\n)", "(# a\na)")
	checkSame(t, "sub(seq(s a)(s b))", "(a;b)", "(a;b;)", "(a\nb)", "(a\nb\n)", "(\n\na\n\n\nb\n\n)", "(a;\n\nb;\n\n)", "(\na;b\n)")
	checkSame(t, "sub(seq(s a)(s b)(s c))", "(a;b;c)", "(a\nb\nc\n)", "(\na;\nb\n\nc;)")
	checkSame(t, "group(seq(s a)(s b))", "{ a;b; }", "{ a\nb\n}", "{\na;\n\nb;\n\n}", "{ a\n\n\nb;}")
	checkSame(t, "sub(sub(s a))", "((a))", "( (a) )", "((a);)", "(\n(a)\n)")
	checkSame(t, "group(sub(s a))", "{ (a); }", "{ (a) }", "{ (a)\n}", "{ (a)}", "{\n(a)}")
	checkSame(t, "group(group(s a))", "{ { a; } }", "{ { a; }; }", "{ { a; }\n}", "{\n{\na\n}\n}\n")
	checkSame(t, "if(sub(s a))(sub(s b))(sub(s c))", "if (a) then (b) else (c) fi", "if (a); then (b); else (c); fi", "if(a)then(b)else(c)fi")
	checkSame(t, "while(group(s a))(if(s b)(s c))", "while { a; } do if b; then c; fi done", "while { a;}; do if b; then c; fi; done")
	check(t, map[string]string{
		"()": " !syntax 1", "(\n)": " !syntax 2", "(;)": " !syntax 1", "(\n;a)": " !syntax 2", "(a;;)": " !syntax 2", "(a; ;)": " !syntax 4", "(a\n;b)": " !syntax 3",
		"{ }": " !syntax 2", "{\n\n}": " !syntax 3", "{ ; }": " !syntax 2", "{ a; ; }": " !syntax 5", "{ a }": " !syntax 5", "{ a; )": " !syntax 5", "(a; })": " !syntax 4",
		"(a; fi)": " !syntax 4", "(a; ! )": " !syntax 6", "{ a; then }": " !syntax 5", "{ a;; }": " !syntax 3", "if ;then a; fi": " !syntax 3", "(a &)": " !syntax 3",
	})
}

// P6.1: what a list ends ahead of.
func TestListEnds(t *testing.T) {
	for _, w := range strings.Fields("then else elif fi do done esac } ) ;;") {
		for _, end := range []string{";", "\n", ";\n\n"} {
			// The token ends the list; in brackets, or in a group, it then doesn't fit.
			if w != ")" {
				check(t, map[string]string{"(a" + end + " " + w: syntaxBehind("(a" + end + " ")})
			}
			if w != "}" {
				check(t, map[string]string{"{ a" + end + " " + w: syntaxBehind("{ a" + end + " ")})
			}
		}
	}
	for _, w := range strings.Fields("in a x=1 then1 'fi' do= \\done") {
		check(t, map[string]string{"(a;" + w: syntaxBehind("(a;" + w)})
	}
}

// P6.1: and-or lists go from left to right, with gaps behind && and ||.
func TestAndOr(t *testing.T) {
	checkSame(t, "and(s a)(s b)", "a&&b", "a && b", "a &&\nb", "a && \n\n\n b", "a && # c\n\n# d\nb")
	checkSame(t, "or(s a)(s b)", "a||b", "a ||\n\nb")
	check(t, map[string]string{
		"a && b || c":                   "or(and(s a)(s b))(s c)",
		"a || b && c":                   "and(or(s a)(s b))(s c)",
		"a && b && c && d":              "and(and(and(s a)(s b))(s c))(s d)",
		"a || b || c":                   "or(or(s a)(s b))(s c)",
		"a && ! b || ! c":               "or(and(s a)(pipe!(s b)))(pipe!(s c))",
		"a | b && c | d":                "and(pipe(s a)(s b))(pipe(s c)(s d))",
		"(a && b) || { c && d; }":       "or(sub(and(s a)(s b)))(group(and(s c)(s d)))",
		"a &&":                          " !syntax 4",
		"a &&\n\n":                      " !syntax 6",
		"&& a":                          " !syntax 0",
		"a && && b":                     " !syntax 5",
		"a && ; b":                      " !syntax 5",
		"a\n&& b":                       "s a !syntax 2",
		"a && | b":                      " !syntax 5",
		"a && )":                        " !syntax 5",
		"a ||\n;":                       " !syntax 5",
		"a && fi":                       " !syntax 5",
		"a & b":                         " !syntax 2",
		"a &&& b":                       " !syntax 4",
		"{ a; } && b":                   "and(group(s a))(s b)",
		"if a && b; then c || d; fi":    "if(and(s a)(s b))(or(s c)(s d))",
		"a && while b; do c; done || d": "or(and(s a)(while(s b)(s c)))(s d)",
	})
}

// P6.1: pipelines, with ! and without, of one command and of several.
func TestPipelines(t *testing.T) {
	checkSame(t, "pipe(s a)(s b)", "a|b", "a | b", "a |\nb", "a |\n\n\nb", "a | # c\nb")
	checkSame(t, "pipe!(s a)", "! a", "!\ta", "! \\\na", "! a\n", "! a;")
	check(t, map[string]string{
		"a | b | c":          "pipe(s a)(s b)(s c)",
		"! a | b | c":        "pipe!(s a)(s b)(s c)",
		"! (a)":              "pipe!(sub(s a))",
		"!(a)":               "pipe!(sub(s a))",
		"! { a; } | b":       "pipe!(group(s a))(s b)",
		"(a) | { b; } >f|c":  "pipe(sub(s a))(group(s b) 1>f)(s c)",
		"a >f | b 2>g":       "pipe(s a 1>f)(s b 2>g)",
		"! if a; then b; fi": "pipe!(if(s a)(s b))",
		"! x=1":              "pipe!(s x:=1)",
		"! >f":               "pipe!(s 1>f)",
		"! f() { a; }":       "pipe!(func:f(group(s a)))",
		"!a":                 "s !a",
		"'!' a":              "s '!' a",
		"a !":                "s a !",
		"!":                  " !syntax 1",
		"! ! a":              " !syntax 2",
		"!\na":               " !syntax 1",
		"! ;":                " !syntax 2",
		"a | ! b":            " !syntax 4",
		"a |":                " !syntax 3",
		"a |\n":              " !syntax 4",
		"| a":                " !syntax 0",
		"a | | b":            " !syntax 4",
		"a\n| b":             "s a !syntax 2",
		"a | ; b":            " !syntax 4",
		"! && a":             " !syntax 2",
		"a | fi":             " !syntax 4",
	})
}

// P6.1: reserved words, where a command may begin.
func TestReservedBegin(t *testing.T) {
	for _, w := range strings.Fields("} do done elif else esac fi then") {
		check(t, map[string]string{
			w: " !syntax 0", w + " a": " !syntax 0", "a; " + w: " !syntax 3", "a\n" + w + "\n": "s a !syntax 2", "a | " + w: " !syntax 4", "a && " + w: " !syntax 5",
			"! " + w: " !syntax 2", "( " + w: " !syntax 2", "{ " + w: " !syntax 2", "if " + w: " !syntax 3", "f() " + w: " !syntax 4", w + "() { a; }": " !syntax 0",
			"until " + w: " !syntax 6", "while a; do " + w: " !syntax 12", "case a in b) \n" + w + "1": syntaxBehind("case a in b) \n" + w + "1"),
		})
	}
	for _, w := range []string{"if", "while", "until", "for", "case", "{"} {
		check(t, map[string]string{w: syntaxBehind(w), w + "; a": syntaxBehind(w)})
	}
	// The list begins with brackets; it is no Func.
	check(t, map[string]string{
		"if() { a; }": " !syntax 3", "while() { a; }": " !syntax 6", "until() a": " !syntax 6", "for() { a; }": " !syntax 3",
		"case() { a; }": " !syntax 4", "{() a": " !syntax 2", "!() a": " !syntax 2",
	})
}

// P6.1: reserved words where they are Words like others.
func TestReservedElsewhere(t *testing.T) {
	for _, w := range append([]string{"in"}, reserved...) {
		check(t, map[string]string{
			"a " + w:                            "s a " + w,
			"a b " + w + " " + w:                "s a b " + w + " " + w,
			"x=1 " + w:                          "s x:=1 " + w,
			"x=1 y= " + w + " a":                "s x:=1 y:= " + w + " a",
			">f " + w:                           "s " + w + " 1>f",
			"2>&1 " + w + " <f":                 "s " + w + " 2&1 0<f",
			"a >" + w:                           "s a 1>" + w,
			"a <" + w + " b":                    "s a b 0<" + w,
			"for i in " + w + "; do a; done":    "for:i " + w + "(s a)",
			"for i in a " + w + "\ndo a\ndone":  "for:i a " + w + "(s a)",
			"case " + w + " in a) b; esac":      "case " + w + "[a| s b]",
			"case a in (" + w + ") b; esac":     "case a[" + w + "| s b]",
			"case a in b|" + w + ") c; esac":    "case a[b|" + w + "| s c]",
			"case a in (b|" + w + "|c) d; esac": "case a[b|" + w + "|c| s d]",
			"a <<" + w + "\nb\n" + w + "\n":     "s a 0<<'b\n'",
			"'" + w + "' a":                     "s '" + w + "' a",
			`\` + w:                             "s '" + w[:1] + "'" + w[1:],
			`""` + w:                            "s ''" + w,
			w + "1":                             "s " + w + "1",
			"_" + w:                             "s _" + w,
			w + "$x":                            "s " + w + "var{x0 }",
		})
		if w != "esac" {
			check(t, map[string]string{"case a in " + w + ") b; esac": "case a[" + w + "| s b]"})
		}
		if chars.Name(w) {
			check(t, map[string]string{w + "=1": "s " + w + ":=1"})
			checkSame(t, "for:"+w+"@(s a)", "for "+w+"; do a; done", "for "+w+" do a; done", "for "+w+"\ndo a; done")
		}
	}
}

// P6.1: in is reserved in For and Case alone.
func TestIn(t *testing.T) {
	check(t, map[string]string{
		"in":                                   "s in",
		"in in":                                "s in in",
		"in | in && in; in":                    "seq(and(pipe(s in)(s in))(s in))(s in)",
		"(in)":                                 "sub(s in)",
		"(a; in)":                              "sub(seq(s a)(s in))",
		"in() { a; }":                          "func:in(group(s a))",
		"in=1 in":                              "s in:=1 in",
		"if in; then in; fi":                   "if(s in)(s in)",
		"for in in in; do in; done":            "for:in in(s in)",
		"for in do in; done":                   "for:in@(s in)",
		"for in\nin in in\ndo in\ndone":        "for:in in in(s in)",
		"case in in in) in;; esac":             "case in[in| s in]",
		"case in\nin\nin) in;; in) esac":       "case in[in| s in][in|]",
		"for x 'in' a; do b; done":             " !syntax 6",
		"case a 'in' a) b; esac":               " !syntax 7",
		"for x; in a; do b; done":              " !syntax 7",
		"for x in1 a; do b; done":              " !syntax 6",
		"case a b in c) d; esac":               " !syntax 7",
		"case a; in b) c; esac":                " !syntax 6",
		"for x\n\n\nin a\n\n\ndo b; done":      "for:x a(s b)",
		"for x in a in b; do c; done":          "for:x a in b(s c)",
		"for x # c\n# d\nin a # e\ndo b\ndone": "for:x a(s b)",
	})
}
