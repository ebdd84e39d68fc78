package parse_test

import (
	"strings"
	"testing"
)

// P6.1: Subshells and Groups.
func TestGroups(t *testing.T) {
	check(t, map[string]string{
		"(a)":               "sub(s a)",
		"(a b; c)":          "sub(seq(s a b)(s c))",
		"(a) >f 2>&1":       "sub(s a) 1>f 2&1",
		"(a)>f":             "sub(s a) 1>f",
		"{ a; }":            "group(s a)",
		"{ a; } <f >>g":     "group(s a) 0<f 1>>g",
		"{ a; }>f":          "group(s a) 1>f",
		"{\na\n}":           "group(s a)",
		"{(a);}":            "group(sub(s a))",
		"{a; }":             " !syntax 4",
		"{}":                "s {}",
		"{ a;}b":            " !syntax 6",
		"{ {a; }; }":        " !syntax 9",
		"(a) b":             " !syntax 4",
		"(a) x=1":           " !syntax 4",
		"(a) (b)":           " !syntax 4",
		"(a) >f b":          " !syntax 7",
		"{ a; } b":          " !syntax 7",
		"{ a; } { b; }":     " !syntax 7",
		"(a":                " !syntax 2",
		"(a;":               " !syntax 3",
		"(a\n\n":            " !syntax 4",
		"(":                 " !syntax 1",
		"{":                 " !syntax 1",
		"{ a":               " !syntax 3",
		"{ a;":              " !syntax 4",
		")":                 " !syntax 0",
		"(a))":              " !syntax 3",
		"{ a; }; }":         " !syntax 8",
		"a (b)":             " !syntax 3",
		"a b (c)":           " !syntax 4",
		"1 (a)":             " !syntax 2",
		"$x()":              " !syntax 2",
		"(a)\n(b)\n{ c; }":  "sub(s a); sub(s b); group(s c)",
		"( (a); { b; } )":   "sub(seq(sub(s a))(group(s b)))",
		"{ (a) && { b; } }": "group(and(sub(s a))(group(s b)))",
	})
}

// P6.1: If, with else, with one elif and with several.
func TestIf(t *testing.T) {
	checkSame(t, "if(s a)(s b)", "if a; then b; fi", "if a\nthen b\nfi", "if\n\na;\n\nthen\n\nb;\n\nfi", "if a; then b; fi;")
	checkSame(t, "if(s a)(s b)(s c)", "if a; then b; else c; fi", "if a\nthen\nb\nelse\n\nc\n\nfi\n")
	checkSame(t, "if(s a)(s b)(if(s c)(s d))", "if a; then b; elif c; then d; fi", "if a\nthen b\nelif\nc\nthen\nd\nfi")
	check(t, map[string]string{
		"if a; then b; elif c; then d; else e; fi":                                    "if(s a)(s b)(if(s c)(s d)(s e))",
		"if a; then b; elif c; then d; elif e; then f; fi":                            "if(s a)(s b)(if(s c)(s d)(if(s e)(s f)))",
		"if a; then b; elif c; then d; elif e; then f; elif g; then h; else i; fi >j": "if(s a)(s b)(if(s c)(s d)(if(s e)(s f)(if(s g)(s h)(s i)))) 1>j",
		"if a; then b; elif c; then d; fi <f >g":                                      "if(s a)(s b)(if(s c)(s d)) 0<f 1>g",
		"if a; then b; else if c; then d; fi <f; fi >g":                               "if(s a)(s b)(if(s c)(s d) 0<f) 1>g",
		"if a;b; then c;d; elif e;f; then g;h; else i;j; fi":                          "if(seq(s a)(s b))(seq(s c)(s d))(if(seq(s e)(s f))(seq(s g)(s h))(seq(s i)(s j)))",
		"if if a; then b; fi; then if c; then d; fi; else if e; then f; fi fi":        "if(if(s a)(s b))(if(s c)(s d))(if(s e)(s f))",
		"if a | b && c; then ! d; fi | e":                                             "pipe(if(and(pipe(s a)(s b))(s c))(pipe!(s d)))(s e)",
		"if a; then b; fi && if c; then d; fi; e":                                     "seq(and(if(s a)(s b))(if(s c)(s d)))(s e)",
		"if a; then b; fi\nif c; then d; fi":                                          "if(s a)(s b); if(s c)(s d)",
		"if a then b; fi":                                                             " !syntax 13",
		"if a; b; fi":                                                                 " !syntax 9",
		"if; then b; fi":                                                              " !syntax 2",
		"if a; then; fi":                                                              " !syntax 10",
		"if a; then fi":                                                               " !syntax 11",
		"if a; then b fi":                                                             " !syntax 15",
		"if a; then b; else fi":                                                       " !syntax 19",
		"if a; then b; else; c; fi":                                                   " !syntax 18",
		"if a; then b; else c; else d; fi":                                            " !syntax 22",
		"if a; then b; else c; elif d; then e; fi":                                    " !syntax 22",
		"if a; then b; elif then c; fi":                                               " !syntax 19",
		"if a; then b; elif c; fi":                                                    " !syntax 22",
		"if a; then b; elif c; then d; fi fi":                                         " !syntax 33",
		"if a; then b; elif c; then d; fi; fi":                                        " !syntax 34",
		"if a; else b; fi":                                                            " !syntax 6",
		"if a; fi":                                                                    " !syntax 6",
		"if a; elif b; then c; fi":                                                    " !syntax 6",
		"if a; do b; done":                                                            " !syntax 6",
		"if a; then b; done":                                                          " !syntax 14",
		"if a; then b; fi c":                                                          " !syntax 17",
		"if a; then b; } fi":                                                          " !syntax 14",
		"if a; then b; fi then":                                                       " !syntax 17",
		"if":                                                                          " !syntax 2",
		"if a; then":                                                                  " !syntax 10",
		"if a; then b":                                                                " !syntax 12",
		"if a; then b; else":                                                          " !syntax 18",
		"if a; then b; elif":                                                          " !syntax 18",
		"if a; then b; elif c; then d":                                                " !syntax 28",
		"if a; then b; elif c >f; then d 2>g; else <h; fi":                            "if(s a)(s b)(if(s c 1>f)(s d 2>g)(s 0<h))",
		"if a;then b;" + strings.Repeat("elif c;then d;", 250) + "else e;fi":             "if(s a)(s b)" + strings.Repeat("(if(s c)(s d)", 250) + "(s e)" + strings.Repeat(")", 250),
		"if a;then b;" + strings.Repeat("elif c;then d;", 50) + "elif (e) then ((f)) fi": "if(s a)(s b)" + strings.Repeat("(if(s c)(s d)", 50) + "(if(sub(s e))(sub(sub(s f))))" + strings.Repeat(")", 50),
	})
}

// P6.1: While and Until.
func TestLoops(t *testing.T) {
	for _, w := range []string{"while", "until"} {
		checkSame(t, w+"(s a)(s b)", w+" a; do b; done", w+" a\ndo b\ndone", w+"\n\na;\n\ndo\n\nb;\n\ndone", w+" a; do b; done;\n")
		check(t, map[string]string{
			w + " a;b; do c;d; done":                          w + "(seq(s a)(s b))(seq(s c)(s d))",
			w + " (a) do (b) done":                            w + "(sub(s a))(sub(s b))",
			w + " a; do b; done <f 3>g":                       w + "(s a)(s b) 0<f 3>g",
			w + " a | ! b":                                    syntaxBehind(w + " a | "),
			w + " a && ! b; do c; done | d":                   "pipe(" + w + "(and(s a)(pipe!(s b)))(s c))(s d)",
			w + " " + w + " a; do b; done; do c; done":        w + "(" + w + "(s a)(s b))(s c)",
			w + " a; do " + w + " b; do c; done done":         w + "(s a)(" + w + "(s b)(s c))",
			w + " a do b; done":                               syntaxBehind(w + " a do b; "),
			w + " a; b; done":                                 syntaxBehind(w + " a; b; "),
			w + " a; do; b; done":                             syntaxBehind(w + " a; do"),
			w + " a; do done":                                 syntaxBehind(w + " a; do "),
			w + " a; do b; fi":                                syntaxBehind(w + " a; do b; "),
			w + " a; then b; done":                            syntaxBehind(w + " a; "),
			w + " do b; done":                                 syntaxBehind(w + " "),
			w + "; do b; done":                                syntaxBehind(w),
			w + " a; do b; done c":                            syntaxBehind(w + " a; do b; done "),
			w + " a; do b; done done":                         syntaxBehind(w + " a; do b; done "),
			w + " a":                                          syntaxBehind(w + " a"),
			w + " a; do":                                      syntaxBehind(w + " a; do"),
			w + " a; do b; ":                                  syntaxBehind(w + " a; do b; "),
			w + " a; do b; do c; done":                        syntaxBehind(w + " a; do b; "),
			w + " a; do b; done; " + w + " c; do d; done":     "seq(" + w + "(s a)(s b))(" + w + "(s c)(s d))",
			"x=1 " + w + " a; do":                             syntaxBehind("x=1 " + w + " a; "),
			w + " a\n\n\n do # c\n b # done\n done >f # done": w + "(s a)(s b) 1>f",
		})
	}
}

// P6.1: For, with a ;, with a gap and an in, and with no in.
func TestFor(t *testing.T) {
	checkSame(t, "for:x@(s a)", "for x; do a; done", "for x;do a; done", "for x ;\n\n\ndo a; done", "for x do a; done", "for x\ndo a; done", "for x\n\n\ndo\na\ndone")
	checkSame(t, "for:x(s a)", "for x in; do a; done", "for x in\ndo a; done", "for x\nin\n\n\ndo a; done", "for x\n\nin;\n\ndo a; done")
	checkSame(t, "for:x 1 2(s a)", "for x in 1 2; do a; done", "for x in 1 2\ndo a; done", "for x\n\nin 1 2;\n\n\ndo a\n\ndone", "for x in 1 \\\n2\n\n\ndo a; done")
	check(t, map[string]string{
		"for x in $y \"$@\" 'a b' c*; do a; done >f": "for:x var{y0 } 'var{@0 }' 'a b' c*(s a) 1>f",
		"for x in a; do b; c; done":                  "for:x a(seq(s b)(s c))",
		"for x in a=1 b=; do c; done":                "for:x a=1 b=(s c)",
		"for x do for y in 1; do a; done done":       "for:x@(for:y 1(s a))",
		"for _1 in 2; do a; done 2>f <g":             "for:_1 2(s a) 2>f 0<g",
		"for if in then; do a; done":                 "for:if then(s a)",
		"for do do do do; done":                      " !syntax 10",
		"for do do a; done":                          "for:do@(s a)",
		"for in; do a; done":                         "for:in@(s a)",
		"for x in a do b; done":                      " !syntax 17",
		"for x in a; b; done":                        " !syntax 12",
		"for x in a; in b; do c; done":               " !syntax 12",
		"for x\n; do a; done":                        " !syntax 6",
		"for x;; do a; done":                         " !syntax 5",
		"for x; ; do a; done":                        " !syntax 7",
		"for x in a;; do b; done":                    " !syntax 10",
		"for x in a; ; do b; done":                   " !syntax 12",
		"for x in a\n; do b; done":                   " !syntax 11",
		"for x in (a); do b; done":                   " !syntax 9",
		"for x in a 2>f; do b; done":                 " !syntax 11",
		"for x in a >f; do b; done":                  " !syntax 11",
		"for x in a | b; do c; done":                 " !syntax 11",
		"for x a; do b; done":                        " !syntax 6",
		"for x y in a; do b; done":                   " !syntax 6",
		"for 1 in a; do b; done":                     " !syntax 4",
		"for $x in a; do b; done":                    " !syntax 4",
		"for 'x' in a; do b; done":                   " !syntax 4",
		"for x- in a; do b; done":                    " !syntax 4",
		"for x=1 in a; do b; done":                   " !syntax 4",
		"for\nx in a; do b; done":                    " !syntax 3",
		"for ; do b; done":                           " !syntax 4",
		"for 2>f in a; do b; done":                   " !syntax 4",
		"for (x) in a; do b; done":                   " !syntax 4",
		"for x { a; }":                               " !syntax 6",
		"for x in a; { b; }":                         " !syntax 12",
		"for x in a; do b; }":                        " !syntax 18",
		"for x in a; do; done":                       " !syntax 14",
		"for x in a; do done":                        " !syntax 15",
		"for x in a; do b; done c":                   " !syntax 23",
		"for":                                        " !syntax 3",
		"for x":                                      " !syntax 5",
		"for x;":                                     " !syntax 6",
		"for x\n\n":                                  " !syntax 7",
		"for x in":                                   " !syntax 8",
		"for x in a":                                 " !syntax 10",
		"for x in a;":                                " !syntax 11",
		"for x in a; do":                             " !syntax 14",
		"for x in a; do b; ":                         " !syntax 18",
	})
}

// P6.1: Case: with and without a (, with several Words, empty items, with and without a ;; at the end.
func TestCase(t *testing.T) {
	checkSame(t, "case a", "case a in esac", "case a\nin\nesac", "case a\n\n\nin\n\n\nesac")
	checkSame(t, "case a[b| s c]", "case a in b) c;; esac", "case a in (b) c;; esac", "case a in b) c; esac", "case a in (b) c\nesac", "case a in\n\n(b)\n\nc\n\n;;\n\nesac",
		"case a in b)c;;esac", "case a in b) c;\n;; esac", "case a in b)\nc;;\n\n\nesac", "case a in ( b ) c;; esac")
	checkSame(t, "case a[b|]", "case a in b) esac", "case a in b) ;; esac", "case a in b);; esac", "case a in (b)\n\n;;\n\nesac", "case a in b)\n\nesac", "case a in b)esac")
	checkSame(t, "case a[b|c|d| s e][f| s g]", "case a in b|c|d) e;; f) g;; esac", "case a in (b | c | d) e;; (f) g; esac", "case a in b |c| d)\ne\n;;\nf) g\nesac")
	check(t, map[string]string{
		"case a in b) ;; c) ;; (d) esac":                              "case a[b|][c|][d|]",
		"case a in b) c;; d) ;; e) f; esac >g 2>&1":                   "case a[b| s c][d|][e| s f] 1>g 2&1",
		"case a in b) c;d;; e) f && g; h\nesac":                       "case a[b| seq(s c)(s d)][e| seq(and(s f)(s g))(s h)]",
		"case $x in *.c|'a b') c;; \"$y\"?) d; esac":                  "case var{x0 }[*.c|'a b'| s c]['var{y0 }'?| s d]",
		"case a in b) (c) esac":                                       "case a[b| sub(s c)]",
		"case a in b) { c; } ;; d) (e);; esac":                        "case a[b| group(s c)][d| sub(s e)]",
		"case a in b) case c in d) e;; esac;; f) case g in esac esac": "case a[b| case c[d| s e]][f| case g]",
		"case a in (esac) b;; c|esac) d;; esac":                       "case a[esac| s b][c|esac| s d]",
		"case esac in (esac|esac) esac":                               "case esac[esac|esac|]",
		"case case in case) case case in case) ;; esac; esac":         "case case[case| case case[case|]]",
		"case a in b=1) x=1;; esac":                                   "case a[b=1| s x:=1]",
		"case a in b) >f;; esac":                                      "case a[b| s 1>f]",
		"case a in b) c esac":                                         " !syntax 19",
		"case a in b) c;; d":                                          " !syntax 18",
		"case a in esac) b;; esac":                                    " !syntax 14",
		"case a in b;; esac":                                          " !syntax 11",
		"case a in b c) d;; esac":                                     " !syntax 12",
		"case a in b|) c;; esac":                                      " !syntax 12",
		"case a in |b) c;; esac":                                      " !syntax 10",
		"case a in b||c) d;; esac":                                    " !syntax 11",
		"case a in b|\nc) d;; esac":                                   " !syntax 12",
		"case a in b\n) c;; esac":                                     " !syntax 11",
		"case a in (\nb) c;; esac":                                    " !syntax 11",
		"case a in () c;; esac":                                       " !syntax 11",
		"case a in ((b) c;; esac":                                     " !syntax 11",
		"case a in (b)) c;; esac":                                     " !syntax 13",
		"case a in ) c;; esac":                                        " !syntax 10",
		"case a in b) c;; ;; esac":                                    " !syntax 17",
		"case a in ;; esac":                                           " !syntax 10",
		"case a in ; esac":                                            " !syntax 10",
		"case a in b) ; esac":                                         " !syntax 13",
		"case a in b) ; ;; esac":                                      " !syntax 13",
		"case a in b) c;; ; esac":                                     " !syntax 17",
		"case a in b) c; ; esac":                                      " !syntax 16",
		"case a in b) fi; esac":                                       " !syntax 13",
		"case a in b) c; fi":                                          " !syntax 16",
		"case a in b) c; done;; esac":                                 " !syntax 16",
		"case a in b) c;; d) e; } esac":                               " !syntax 23",
		"case a in 2>f) c;; esac":                                     " !syntax 10",
		"case a in b 2>f) c;; esac":                                   " !syntax 12",
		"case 2>f in b) c;; esac":                                     " !syntax 5",
		"case (a) in b) c;; esac":                                     " !syntax 5",
		"case\na in b) c;; esac":                                      " !syntax 4",
		"case in esac":                                                " !syntax 8",
		"case a esac":                                                 " !syntax 7",
		"case a in b) c;; esac d":                                     " !syntax 22",
		"case a in esac; esac":                                        " !syntax 16",
		"case a in b) c) d;; esac":                                    " !syntax 14",
		"case a in b) c & d;; esac":                                   " !syntax 15",
		"case":                                                        " !syntax 4",
		"case a":                                                      " !syntax 6",
		"case a\n":                                                    " !syntax 7",
		"case a in":                                                   " !syntax 9",
		"case a in\n":                                                 " !syntax 10",
		"case a in (":                                                 " !syntax 11",
		"case a in b":                                                 " !syntax 11",
		"case a in b|":                                                " !syntax 12",
		"case a in b)":                                                " !syntax 12",
		"case a in b)\n":                                              " !syntax 13",
		"case a in b) c":                                              " !syntax 14",
		"case a in b) c;":                                             " !syntax 15",
		"case a in b) c;;":                                            " !syntax 16",
		"case a in b) c;;\n\n":                                        " !syntax 18",
	})
}

// P6.1: a Func of each kind of command, whose Redirs are the Func's.
func TestFunc(t *testing.T) {
	for text, want := range map[string]string{
		"(a)": "sub(s a)", "{ a; }": "group(s a)", "if a; then b; else c; fi": "if(s a)(s b)(s c)", "if a; then b; elif c; then d; fi": "if(s a)(s b)(if(s c)(s d))",
		"while a; do b; done": "while(s a)(s b)", "until a; do b; done": "until(s a)(s b)", "for x; do a; done": "for:x@(s a)", "for x in a; do b; done": "for:x a(s b)",
		"case a in b) c;; esac": "case a[b| s c]", "case a in esac": "case a", "{ a >f; }": "group(s a 1>f)", "{ { a; } >f; }": "group(group(s a) 1>f)",
	} {
		checkSame(t, "func:f("+want+")", "f() "+text, "f ( ) "+text, "f()\n"+text, "f ( )\n\n\n"+text+"\n", "f() # c\n"+text)
		checkSame(t, "func:f("+want+") 1>g", "f() "+text+" >g", "f()\n"+text+">g")
		checkSame(t, "func:f("+want+") 0<g 2&1 1>>h", "f() "+text+" <g 2>&1 >>h")
		checkSame(t, "pipe(func:f("+want+"))(s a)", "f() "+text+" | a")
		checkSame(t, "seq(func:f("+want+"))(s f)", "f() "+text+"; f")
		checkSame(t, "group(func:f("+want+") 1>g)", "{ f() "+text+" >g; }", "{ f() "+text+" >g\n}")
		checkSame(t, "func:f("+want+") 0<<'t\n'", "f() "+text+" <<E\nt\nE\n")
	}
	check(t, map[string]string{
		"f(){ a; }":                   "func:f(group(s a))",
		"f()(a)":                      "func:f(sub(s a))",
		"f() { g() { a; } >h; } >i":   "func:f(group(func:g(group(s a)) 1>h)) 1>i",
		"f() { g() { a; } }":          "func:f(group(func:g(group(s a))))",
		"_f1() { a; }":                "func:_f1(group(s a))",
		"f() a":                       " !syntax 4",
		"f() x=1":                     " !syntax 4",
		"f() >g":                      " !syntax 4",
		"f() g() { a; }":              " !syntax 4",
		"f() ! { a; }":                " !syntax 4",
		"f() ;":                       " !syntax 4",
		"f() {}":                      " !syntax 4",
		"f()":                         " !syntax 3",
		"f()\n\n":                     " !syntax 5",
		"f(":                          " !syntax 2",
		"f(a) { b; }":                 " !syntax 2",
		"f (a)":                       " !syntax 3",
		"f(\n) { a; }":                " !syntax 2",
		"f\n() { a; }":                "s f !syntax 3",
		"f(() { a; }":                 " !syntax 2",
		"f()) { a; }":                 " !syntax 3",
		"f() () { a; }":               " !syntax 5",
		"f-g() { a; }":                " !syntax 3",
		"1f() { a; }":                 " !syntax 2",
		"'f'() { a; }":                " !syntax 3",
		"$f() { a; }":                 " !syntax 2",
		"x=1() { a; }":                " !syntax 3",
		"x=1 f() { a; }":              " !syntax 5",
		"a f() { a; }":                " !syntax 3",
		">f g() { a; }":               " !syntax 4",
		"f >g () { a; }":              " !syntax 5",
		"f() { a; } b":                " !syntax 11",
		"f() { a; } >g b":             " !syntax 14",
		"f() { a; } { b; }":           " !syntax 11",
		"if f() { a; }; then b; fi":   "if(func:f(group(s a)))(s b)",
		"if f() { a; } then b; fi >g": "if(func:f(group(s a)))(s b) 1>g",
	})
}
