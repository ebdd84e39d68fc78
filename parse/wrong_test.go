package parse_test

import (
	"strconv"
	"strings"
	"testing"

	"conch/api"
)

// P6.1: each token that fits nowhere, or not where a command may begin, is to blame itself.
func TestMisfits(t *testing.T) {
	for _, op := range []string{"&&", "||", ";;", "|", "&", ";", ")"} {
		check(t, map[string]string{
			op: " !syntax 0", "\n " + op: " !syntax 2", "a\n" + op + " b": "s a !syntax 2", "a | " + op: " !syntax 4", "! " + op: " !syntax 2", "( " + op: " !syntax 2",
			"a >" + " " + op: " !syntax 4", "for " + op: " !syntax 4", "case " + op: " !syntax 5", "f() " + op: " !syntax 4", "if a; then " + op: " !syntax 11",
		})
	}
	check(t, map[string]string{
		"a &": " !syntax 2", "a & b": " !syntax 2", "a\nb\nc &\nd": "s a; s b !syntax 6", "a ;; b": " !syntax 2", "a ( b": " !syntax 4", "a b ( c": " !syntax 4",
		"a; b; ( c; d": " !syntax 12", "a; b; ) c": " !syntax 6", "(a) (b)": " !syntax 4", "(a) b": " !syntax 4", "(a) if": " !syntax 4", "if a; then b; fi fi": " !syntax 17",
	})
}

// P6.1: an Io's number of 999 and of 1000.
func TestIoNumbers(t *testing.T) {
	for io, want := range map[string]string{
		"999": "s 999>f", "0999": "s 999>f", "1000": " !big 0", "01000": " !big 0", "99999999999999999999999999": " !big 0", strings.Repeat("0", 900) + "7": "s 7>f",
	} {
		check(t, map[string]string{io + ">f": want})
	}
	check(t, map[string]string{
		"a 1000>f":                     " !big 2",
		"a 1000<<E\nE\n":               " !big 2",
		"a\nb 1>f 1000<g 2000>h )":     "s a !big 8",
		"1000>":                        " !big 0",
		"1000> )":                      " !big 0",
		"1000>${}":                     " !big 0",
		"(a) 1000>f":                   " !big 4",
		"f() { a; } 1000>f":            " !big 11",
		"if a; then b; fi 1000>f":      " !big 17",
		"if a; then b 1000>f":          " !big 13",
		"a 1000 >f":                    "s a 1000 1>f",
		"for x in 1000>f; do a; done":  " !syntax 9",
		"for 1000>f":                   " !syntax 4",
		"case 1000>f in a) b; esac":    " !syntax 5",
		"case a in 1000>f) b; esac":    " !syntax 10",
		"a > 1000>f":                   " !syntax 4",
		"f() 1000>g":                   " !syntax 4",
		"a 999>f 1000>g":               " !big 8",
		"a )  1000>g":                  " !syntax 2",
		"a 1000>f 'b":                  " !big 2",
		"while 1000>f; do a; done":     " !big 6",
		"a; b | c && 1000>f":           " !big 12",
		"case a in b) 1000>f;; esac )": " !big 13",
	})
}

// P6.1: a Word's error, and a Let's, at the Word.
func TestWordErrors(t *testing.T) {
	check(t, map[string]string{
		"${}":                               " !syntax 0",
		"a ${}":                             " !syntax 2",
		"a b${x!}c d":                       " !syntax 2",
		"a \"${}\"":                         " !syntax 2",
		"a 'b'${x-${}}":                     " !syntax 2",
		"a; b ${1234}":                      " !syntax 5",
		"a\nb\n${x:#}\nc":                   "s a; s b !syntax 4",
		"x=${}":                             " !syntax 0",
		"a\n x=1 yy=a${} b":                 "s a !syntax 7",
		"a >${}":                            " !syntax 3",
		"a 2> ${}":                          " !syntax 5",
		"(a) >f${}":                         " !syntax 5",
		"for x in a ${} b; do c; done":      " !syntax 11",
		"case ${} in a) b; esac":            " !syntax 5",
		"case a in ${}) b; esac":            " !syntax 10",
		"case a in (b|${}) c; esac":         " !syntax 13",
		"case a in b) ${}; esac":            " !syntax 13",
		"if ${}; then a; fi":                " !syntax 3",
		"f() { ${}; }":                      " !syntax 6",
		"a ${} )":                           " !syntax 2",
		"a ) ${}":                           " !syntax 2",
		"a ${} 'b":                          " !syntax 2",
		"${}=1 (a)":                         " !syntax 0",
		"${} (":                             " !syntax 0",
		"a $() $(()) '${}' \\${} \"\\${}\"": "s a run{0 } sum{0 } '${}' '$'{} '${}'",
		"a $(${})":                          "s a run{${}0 }",
	})
}

// P6.1: a text in place's error, at the Op.
func TestHereErrors(t *testing.T) {
	deep := func(n int) string { return strings.Repeat("${x-", n) + strings.Repeat("}", n) }
	check(t, map[string]string{
		"a <<E\n${}\nE\n":                                      " !syntax 2",
		"a <<E\n`\nE\n":                                        " !syntax 2",
		"a <<E\n$(\nE\n":                                       " !quote 2",
		"a b  2<<-E c\n\t${x\n\tE\n":                           " !quote 6",
		"a\nb <<'E'\n${\nE\nc <<E d\n${\nE\n":                  "s a; s b 0<<'${\n' !quote 17",
		"a <<E <<F\n1\nE\n$(\nF\n":                             " !quote 6",
		"a <<E <<F\n$(\nE\n`\nF\n":                             " !quote 2",
		"a <<E )\n${}\nE\n":                                    " !syntax 2",
		"a ) <<E\n$(\nE\n":                                     " !syntax 2",
		"a ${} <<E\n$(\nE\n":                                   " !syntax 2",
		"a <<E ${}\n$(\nE\n":                                   " !quote 2",
		"a <<E >\n$(\nE\n":                                     " !quote 2",
		"(a) <<E\n$(\nE\n":                                     " !quote 4",
		"f() { a; } <<E\n$(\nE\n":                              " !quote 11",
		"a <<E\n" + deep(40) + "\nE\n":                         "s a 0<<'" + deepVar(40) + "''\n'",
		"a <<E\n" + deep(41) + "\nE\n":                         " !big 2",
		"a <<'E'\n" + deep(41) + "\nE\n":                       "s a 0<<'" + deep(41) + "\n'",
		"a <<E <<F\n${}\nE\n":                                  " !syntax 2",
		"a <<E <<F\n1\nE\n":                                    " !here 6",
		"for x <<E\n$(\nE\n":                                   " !syntax 6",
		"a 1000<<E\n$(\nE\n":                                   " !big 2",
		"{ a <<E\n$(\nE\n}":                                    " !quote 4",
		"case a in b) c <<E;; esac\n${\nE\n":                   " !quote 15",
		"a <<E | b | c\n" + strings.Repeat("a", 9) + "$(\nE\n": " !quote 2",
	})
}

// deepVar is, in short, a Var that is quoted, with others in it, n in all.
func deepVar(n int) string {
	s := ""
	for i := range n {
		s = "var{x- " + s + "}"
		if i < n-1 {
			s = "'" + s + "'"
		}
	}
	return s
}

// openings are beginnings of commands that others may stand in, with what stands around those, and as they are shown.
var openings = []struct {
	ahead, behind         string
	shownAhead, shownBack string
	deep                  int // how many commands
}{
	{"(", ")", "sub(", ")", 1},
	{"{ ", "; }", "group(", ")", 1},
	{"if ", "; then x; fi", "if(", ")(s x)", 1},
	{"if x; then ", "; fi", "if(s x)(", ")", 1},
	{"if x; then x; else ", "; fi", "if(s x)(s x)(", ")", 1},
	{"if x; then x; elif ", "; then x; fi", "if(s x)(s x)(if(", ")(s x))", 1},
	{"while ", "; do x; done", "while(", ")(s x)", 1},
	{"until x; do ", "; done", "until(s x)(", ")", 1},
	{"for x do ", "; done", "for:x@(", ")", 1},
	{"case x in x) ", ";; esac", "case x[x| ", "]", 1},
	{"f() { ", "; }", "func:f(group(", "))", 2},
	{"f()(", ")", "func:f(sub(", "))", 2},
	{"! a | (", ") && a", "and(pipe!(s a)(sub(", ")))(s a)", 1},
}

// P6.1: commands 40 and 41 deep, of each kind, and of several.
func TestDepth(t *testing.T) {
	for _, o := range openings {
		n := api.MaxDeep / o.deep
		around := func(n int, inner string) string {
			return strings.Repeat(o.ahead, n) + inner + strings.Repeat(o.behind, n)
		}
		shownAround := func(n int, inner string) string {
			return strings.Repeat(o.shownAhead, n) + inner + strings.Repeat(o.shownBack, n)
		}
		check(t, map[string]string{around(n, "a"): shownAround(n, "s a")})
		at := len(strings.Repeat(o.ahead, n))
		for _, inner := range []string{
			"(a)", "{ a; }", "if a; then b; fi", "while a; do b; done", "until a; do b; done", "for x; do a; done", "for x in y; do a; done", "case a in esac", "f() { a; }", "f ( ) (a)",
			"(", "{", "if", "while )", "until ;", "for 1", "case", "f()", "f(", "( 'a", "{ 'a",
		} {
			check(t, map[string]string{around(n, inner): " !big " + strconv.Itoa(at), "a\n" + around(n, inner): "s a !big " + strconv.Itoa(at+2)})
		}
		// What stands beside is not within.
		check(t, map[string]string{
			around(n, "a") + "; " + around(n, "b"): "seq(" + shownAround(n, "s a") + ")(" + shownAround(n, "s b") + ")",
			around(n, "a") + "\n" + around(n, "b"): shownAround(n, "s a") + "; " + shownAround(n, "s b"),
		})
	}
}

// P6.1: commands of several kinds within one another: the first one that is too deep is to blame.
func TestDepthOfSeveral(t *testing.T) {
	w := &writer{state: 6}
	for range 300 {
		ahead, behind, want, back := "", "", "", ""
		deep := 0
		for deep < api.MaxDeep-1 {
			o := openings[w.pick(len(openings))]
			ahead, behind, want, back, deep = ahead+o.ahead, o.behind+behind, want+o.shownAhead, o.shownBack+back, deep+o.deep
		}
		if deep == api.MaxDeep-1 {
			check(t, map[string]string{
				ahead + "(a)" + behind:        want + "sub(s a)" + back,
				ahead + "f() (a)" + behind:    " !big " + strconv.Itoa(len(ahead)+4),
				ahead + "((a))" + behind:      " !big " + strconv.Itoa(len(ahead)+1),
				ahead + "f() )" + behind:      syntaxBehind(ahead + "f() "),
				ahead + "a; (b); (c;d)":       syntaxBehind(ahead + "a; (b); (c;d)"),
				ahead + "(a); f(){ " + behind: " !big " + strconv.Itoa(len(ahead)+8),
			})
			continue
		}
		check(t, map[string]string{
			ahead + "a" + behind:       want + "s a" + back,
			ahead + "f() (a)" + behind: " !big " + strconv.Itoa(len(ahead)),
			ahead + "a; (b)" + behind:  " !big " + strconv.Itoa(len(ahead)+3),
			ahead + "a b ( c":          syntaxBehind(ahead + "a b "),
			ahead + "fi":               syntaxBehind(ahead),
			ahead + "a | if b":         " !big " + strconv.Itoa(len(ahead)+4),
			ahead + "f":                syntaxBehind(ahead + "f"),
			ahead + "a <<E; case b\n":  " !big " + strconv.Itoa(len(ahead)+7),
		})
	}
}

// P6.1: where a token is wanted, or a line would end, but none is left, an error of the tokens is told.
func TestTokensLeft(t *testing.T) {
	for _, ahead := range []string{
		"", "a ", "a; ", "a;b; ", "a\n", "a\n\n", "a | ", "a && ", "a ||\n", "! ", "(", "( a ", "(a; ", "(a) ", "(a) >f ", "{ ", "{ a; ", "if ", "if a; then ", "if a; then b; ", "if a; then b; else ",
		"if a; then b; elif c; then d; ", "while ", "while a; do ", "until a; ", "for ", "for x ", "for x; ", "for x in ", "for x in a ", "for x in a; ", "for x\n", "case ", "case a ", "case a in ", "case a in (",
		"case a in b| ", "case a in b) ", "case a in b) c; ", "case a in b) c;; ", "f() ", "f( ", "f()\n", "f() { a; } ", "x=1 ", "a > ", "a 2> ", "a >f ", "a <<E ",
	} {
		lines := ""
		if strings.HasPrefix(ahead, "a\n") {
			lines = "s a"
		}
		at := strconv.Itoa(len(ahead))
		check(t, map[string]string{ahead + "'b": lines + " !quote " + at, ahead + "b\"$(c": lines + " !quote " + strconv.Itoa(len(ahead)+3), ahead + "b`": lines + " !syntax " + strconv.Itoa(len(ahead)+1)})
		deep := strings.Repeat("${x-", 41) + strings.Repeat("}", 41)
		check(t, map[string]string{ahead + deep: lines + " !big " + strconv.Itoa(len(ahead)+40*4)})
	}
	check(t, map[string]string{
		"a <<E":                     " !here 2",
		"a <<E\n":                   " !here 2",
		"a <<E\nb\nc":               " !here 2",
		"a\nb <<E; c 2<<F":          "s a !here 4",
		"(a <<E)":                   " !here 3",
		"(a <<E) )":                 " !syntax 8",
		"if <<E":                    " !here 3",
		"{ a <<E":                   " !here 4",
		"a <<E ; fi\n":              " !syntax 8",
		"a <<E | ":                  " !here 2",
		"a <<E )\nE":                " !syntax 6",
		"a ) 'b":                    " !syntax 2",
		"a; fi 'b":                  " !syntax 3",
		"a ${} 'b":                  " !syntax 2",
		"a 1000>f 'b":               " !big 2",
		"a <<E\n${\nE\n'b":          " !quote 2",
		"a\nb\n'c":                  "s a; s b !quote 4",
		"a\nb\n c; 'd":              "s a; s b !quote 8",
		"a\nb; c <<E\n":             "s a !here 7",
		strings.Repeat(" ", 4096):   "",
		strings.Repeat(" ", 4097):   " !big 0",
		strings.Repeat("a\n", 2049): " !big 0",
		strings.Repeat("a", 4096):   "s " + strings.Repeat("a", 4096),
		strings.Repeat("a", 4097):   " !big 0",
		strings.Repeat(")", 4097):   " !big 0",
	})
}

// P6.1: the commands are those of the lines ahead of the one that is wrong, and of all of them, if none is.
func TestLinesAhead(t *testing.T) {
	check(t, map[string]string{
		"a\nb\nc":                      "s a; s b; s c",
		"a\nb\nc )":                    "s a; s b !syntax 6",
		"a\nb; )\nc":                   "s a !syntax 5",
		"a; b; c )":                    " !syntax 8",
		")\na\nb":                      " !syntax 0",
		"a\n(b\nc\n)\nd\n)":            "s a; sub(seq(s b)(s c)); s d !syntax 11",
		"a\n{ b\nc\n":                  "s a !syntax 8",
		"a\n\nif b\nthen c\nfi fi\nd":  "s a !syntax 18",
		"a\nb && 1000>f":               "s a !big 7",
		"a; b;\n\n\nc d\n${}\ne":       "seq(s a)(s b); s c d !syntax 12",
		"f() { a; }\nf\nf()":           "func:f(group(s a)); s f !syntax 16",
		"a <<E\n1\nE\nb <<F\n$(\nF\nc": "s a 0<<'1\n' !quote 12",
	})
}
