package parse_test

import (
	"strconv"
	"strings"
	"testing"

	"conch/api"
	"conch/parse"
)

// P6.1: Lets stand ahead of Words, and none behind them.
func TestLets(t *testing.T) {
	check(t, map[string]string{
		"x=1":                  "s x:=1",
		"x=":                   "s x:=",
		"x=1 y=2":              "s x:=1 y:=2",
		"x=1 a":                "s x:=1 a",
		"x= y= a b":            "s x:= y:= a b",
		"a x=1":                "s a x=1",
		"x=1 a y=2":            "s x:=1 a y=2",
		"x=1 >f y=2 <g a z=3":  "s x:=1 y:=2 a z=3 1>f 0<g",
		">f x=1":               "s x:=1 1>f",
		">f a x=1":             "s a x=1 1>f",
		"x==1":                 "s x:==1",
		"x=a=b":                "s x:=a=b",
		"_1=a":                 "s _1:=a",
		"x='a b'":              "s x:='a b'",
		"x=\"$y\"z":            "s x:='var{y0 }'z",
		"x=$(a b)c y=$((1 2))": "s x:=run{a b0 }c y:=sum{1 20 }",
		"x=${y:-a b}":          "s x:=var{y-: a b}",
		"x=\"\"":               "s x:=''",
		"x=\\\n1 a":            "s x:=1 a",
		"x=\\\n":               "s x:=",
		"if=1 then":            "s if:=1 then",
		"=1":                   "s =1",
		"= x=1":                "s = x=1",
		"1=2":                  "s 1=2",
		"1x=2 y=3":             "s 1x=2 y=3",
		"x-y=1":                "s x-y=1",
		"x+=1":                 "s x+=1",
		"x[1]=2":               "s x[1]=2",
		"$x=1 y=2":             "s var{x0 }=1 y=2",
		"'x'=1":                "s 'x'=1",
		"x\\=1":                "s x'='1",
		"x'='1":                "s x'='1",
		"x\\\n=1":              "s x=1",
		"x =1":                 "s x =1",
		"x=1 (a)":              " !syntax 4",
		"x=(a)":                " !syntax 2",
		"x=1 | y=2 && z=3":     "and(pipe(s x:=1)(s y:=2))(s z:=3)",
		"(x=1) ; { y=2; }":     "seq(sub(s x:=1))(group(s y:=2))",
	})
}

// P6.1: Words are word.Parse's.
func TestWords(t *testing.T) {
	check(t, map[string]string{
		"a":                       "s a",
		"a b  c\td":               "s a b c d",
		"'a b' c":                 "s 'a b' c",
		"a'b'\"c\"\\d e":          "s a'bcd' e",
		"''":                      "s ''",
		"'' a \"\"":               "s '' a ''",
		"$x \"$y\" ${z} $1 $@ $#": "s var{x0 } 'var{y0 }' var{z0 } var{10 } var{@0 } var{#0 }",
		"${x:-a} ${#x} ${x##a*}":  "s var{x-: a} var{xlength } var{x## a*}",
		"$(if) $((1+2)) \"$(a)\"": "s run{if0 } sum{1+20 } 'run{a0 }'",
		"a#b c=d -e f=":           "s a#b c=d -e f=",
		"a\\\nb c\\\n d":          "s ab c d",
		"a{b,c} } {":              "s a{b,c} } {",
		"1 2 03":                  "s 1 2 03",
		"a !":                     "s a !",
	})
}

// P6.1: each redirection, with and without an Io, of a Simple and behind other kinds.
func TestRedirections(t *testing.T) {
	for _, r := range []struct {
		op, kind string
		fd       int
	}{{"<", "<", 0}, {">", ">", 1}, {">>", ">>", 1}, {"<>", "<>", 0}, {"<&", "&", 0}, {">&", "&", 1}} {
		for _, blank := range []string{"", " ", "\t\\\n"} {
			to := strconv.Itoa(r.fd) + r.kind + "f"
			checkSame(t, "s "+to, r.op+blank+"f")
			checkSame(t, "s a "+to, "a "+r.op+blank+"f", r.op+blank+"f a", "a"+r.op+blank+"f")
			checkSame(t, "s x:=1 a b "+to, "x=1 a "+r.op+blank+"f b", "x=1 "+r.op+blank+"f a b")
			checkSame(t, "sub(s a) "+to, "(a)"+r.op+blank+"f", "(a) "+r.op+blank+"f")
			for _, io := range []string{"0", "1", "2", "9", "10", "007", "999", "0000999"} {
				n, _ := strconv.Atoi(io)
				to := strconv.Itoa(n) + r.kind + "f"
				checkSame(t, "s "+to, io+r.op+blank+"f")
				checkSame(t, "s a b "+to, "a "+io+r.op+blank+"f b", io+r.op+blank+"f a b", "a b "+io+r.op+blank+"f")
				checkSame(t, "group(s a) "+to, "{ a; } "+io+r.op+blank+"f")
			}
		}
	}
	check(t, map[string]string{
		"a <f >g 2>>h 3<>i 4<&5 6>&7":    "s a 0<f 1>g 2>>h 3<>i 4&5 6&7",
		"a >&- <&$x >\"b c\" <'d'$(e)":   "s a 1&- 0&var{x0 } 1>'b c' 0<'d'run{e0 }",
		"a 2 >f":                         "s a 2 1>f",
		"a b2>f":                         "s a b2 1>f",
		"a '2'>f":                        "s a '2' 1>f",
		"2>f":                            "s 2>f",
		">f <g":                          "s 1>f 0<g",
		">f b":                           "s b 1>f",
		">2 <3":                          "s 1>2 0<3",
		"a >if":                          "s a 1>if",
		">x=1 y=2":                       "s y:=2 1>x=1",
		"a >x=1":                         "s a 1>x=1",
		">f | <g":                        "pipe(s 1>f)(s 0<g)",
		"(a) 2>f 3<g | b":                "pipe(sub(s a) 2>f 3<g)(s b)",
		"if a; then b; fi 2>f >g":        "if(s a)(s b) 2>f 1>g",
		"if a; then b; fi 2>f; c":        "seq(if(s a)(s b) 2>f)(s c)",
		"a >":                            " !syntax 3",
		"a > >f":                         " !syntax 4",
		"a >2>f":                         " !syntax 3",
		"a > 2>f":                        " !syntax 4",
		"a >\nf":                         " !syntax 3",
		"a >;":                           " !syntax 3",
		"a >|f":                          " !syntax 3",
		"a <(b)":                         " !syntax 3",
		"a 2>":                           " !syntax 4",
		"2>":                             " !syntax 2",
		"2>;":                            " !syntax 2",
		"(a) 2> )":                       " !syntax 7",
		"a >f )":                         " !syntax 5",
		"a <<<b":                         " !syntax 4",
		"a <<":                           " !syntax 4",
		"a << ;":                         " !syntax 5",
		"a <<-\n":                        " !syntax 5",
		"a <<2>f":                        " !syntax 4",
		"while a; do b; done >f <g 2>&1": "while(s a)(s b) 1>f 0<g 2&1",
	})
}

// P6.1: texts in place, Raw and not.
func TestHere(t *testing.T) {
	check(t, map[string]string{
		"a <<E\nb\nE\n":                       "s a 0<<'b\n'",
		"a <<E\nb\nE":                         "s a 0<<'b\n'",
		"a <<E\nE\n":                          "s a 0<<",
		"a <<'E'\nE\n":                        "s a 0<<''",
		"a <<E\n$x ${y:-c d} \"e\" \\$\nE\n":  "s a 0<<'var{x0 }'' ''var{y-: 'c d'}'' \"e\" $\n'",
		"a <<'E'\n$x ${ \\$\n`\nE\n":          "s a 0<<'$x ${ \\$\n`\n'",
		"a <<\\E\n$x\nE\n":                    "s a 0<<'$x\n'",
		"a <<\"E\"\n$(\nE\n":                  "s a 0<<'$(\n'",
		"a <<-E\n\t\tb\n\t E\n\tE\n":          "s a 0<<'b\n E\n'",
		"a <<-'E'\n\t$x\nE\n":                 "s a 0<<'$x\n'",
		"a 3<<E 4<<-F\n1\nE\n\t2\nF\n":        "s a 3<<'1\n' 4<<'2\n'",
		"3<<E a\n1\nE\n":                      "s a 3<<'1\n'",
		"<<E\n1\nE\n":                         "s 0<<'1\n'",
		"x=1 <<E y=2 a\n1\nE\n":               "s x:=1 y:=2 a 0<<'1\n'",
		"a <<E | b <<F; c\n1\nE\n2\nF\nd":     "seq(pipe(s a 0<<'1\n')(s b 0<<'2\n'))(s c); s d",
		"a <<E &&\n1\nE\nb":                   "and(s a 0<<'1\n')(s b)",
		"{ a <<E\n1\nE\nb; } <<F\n2\nF\n":     "group(seq(s a 0<<'1\n')(s b)) 0<<'2\n'",
		"(a) <<E\n1\nE\n":                     "sub(s a) 0<<'1\n'",
		"if a <<E\n1\nE\nthen b; fi":          "if(s a 0<<'1\n')(s b)",
		"for x in 1\ndo a <<E; done\n$x\nE\n": "for:x 1(s a 0<<'var{x0 }''\n')",
		"a <<$x\n1\n$x\n":                     "s a 0<<'1\n'",
		"a <<${}\n1\n${}\n":                   "s a 0<<'1\n'",
		"a <<${-} b\n${-}\n":                  "s a b 0<<",
		"a <<E\n1\nE\n\n\nb":                  "s a 0<<'1\n'; s b",
		"a <<E b\n1\nE\nc )":                  "s a b 0<<'1\n' !syntax 14",
	})
	// Of a text in place that is Raw there is a Lit, also of an empty one; of another one as word.Here has it.
	raw, _, _ := parse.Parse("a <<'E'\nE\n")
	if len(raw) != 1 || len(raw[0].Redirs) != 1 || len(raw[0].Redirs[0].Word) != 1 {
		t.Errorf("an empty Raw one: %v", raw)
	} else if p := raw[0].Redirs[0].Word[0]; p.Kind != api.Lit || !p.Quote || p.Text != "" {
		t.Errorf("an empty Raw one: %v", p)
	}
	other, _, _ := parse.Parse("a <<E\nE\n")
	if len(other) != 1 || len(other[0].Redirs) != 1 || len(other[0].Redirs[0].Word) != 0 {
		t.Errorf("an empty one: %v", other)
	}
}

// P6.1: commands with much in them.
func TestMany(t *testing.T) {
	for _, n := range []int{1, 2, 3, 100, 1000} {
		many := func(s string) string { return strings.Repeat(s, n) }
		check(t, map[string]string{
			"a" + many(" b"):                          "s a" + many(" b"),
			"a" + many(";b"):                          "seq(s a)" + many("(s b)"),
			"a" + many("|b"):                          "pipe(s a)" + many("(s b)"),
			"a" + many("\nb"):                         "s a" + many("; s b"),
			many("x= ") + "a":                         "s" + many(" x:=") + " a",
			"a" + many(" >f"):                         "s a" + many(" 1>f"),
			"a" + many("||b"):                         many("or(") + "s a)(s b)" + strings.Repeat(")(s b)", n-1),
			"for x in" + many(" a") + "\ndo b; done":  "for:x" + many(" a") + "(s b)",
			"case a in b" + many("|c") + ") esac":     "case a[b|" + many("c|") + "]",
			"(" + many("\n") + "a" + many("\n") + ")": "sub(s a)",
		})
	}
	check(t, map[string]string{"case a in " + strings.Repeat("b);;", 1000) + "esac": "case a" + strings.Repeat("[b|]", 1000)})
}
