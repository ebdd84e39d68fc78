package word_test

import (
	"strings"
	"testing"

	"conch/api"
	"conch/word"
)

// shown is a word in short: kinds, a q if quoted, texts, the Op with its Colon and its word.
func shown(w api.Word) string {
	out := ""
	for _, p := range w {
		kind := "?"
		if p.Kind > 0 && p.Kind < 5 {
			kind = string(" lvrs"[p.Kind])
		}
		if p.Quote {
			kind += "q"
		}
		out += kind + "[" + p.Text
		if p.Colon {
			out += " :"
		}
		if p.Op > 0 && p.Op < 10 {
			out += " " + strings.Fields("length - = ? + # ## % %%")[p.Op-1]
		} else if p.Op != 0 {
			out += " no op"
		}
		if len(p.Word) > 0 {
			out += " (" + shown(p.Word) + ")"
		}
		out += "]"
	}
	return out
}

// answer is a word, or an error, in short.
func answer(w api.Word, e api.Errno) string {
	switch {
	case e == api.OK:
		return shown(w)
	case w != nil:
		return "an error with a word"
	case e == api.ErrSyntax:
		return "!"
	}
	return e.Error()
}

// checkParse holds Parse against what is wanted.
func checkParse(t *testing.T, raw, want string) {
	t.Helper()
	if got := answer(word.Parse(raw)); got != want {
		t.Errorf("Parse(%.80q): %.200s; want %.200s", raw, got, want)
	}
}

// checkHere holds Here against what is wanted.
func checkHere(t *testing.T, body, want string) {
	t.Helper()
	if got := answer(word.Here(body)); got != want {
		t.Errorf("Here(%.80q): %.200s; want %.200s", body, got, want)
	}
}

// readIn is what becomes of a text that is read in one of the six ways, without what stands around it.
func readIn(t *testing.T, way, s string) string {
	t.Helper()
	ahead, behind := map[string]string{"brace": "${z-", "quotes": `"`, "quoted brace": `"${z-`, "pattern": `"${z%%`}[way],
		map[string]string{"brace": "}", "quotes": `"`, "quoted brace": `}"`, "pattern": `}"`}[way]
	switch way {
	case "place":
		return answer(word.Here(s))
	case "plain", "quotes":
		return answer(word.Parse(ahead + s + behind))
	}
	w, e := word.Parse(ahead + s + behind)
	if e == api.OK && (len(w) != 1 || w[0].Kind != api.Var || w[0].Text != "z" || w[0].Op < api.Default || w[0].Quote != (way != "brace")) {
		t.Errorf("Parse(%q): %s", ahead+s+behind, shown(w))
		return "no brace"
	}
	if e != api.OK {
		return answer(w, e)
	}
	return shown(w[0].Word)
}

// checkWays holds a text, read in each way, against what is wanted: Plain, In a brace, As a quoted pattern; In quotes,
// In a quoted brace, In place. An empty want: it is not asked.
func checkWays(t *testing.T, s, plain, brace, pattern, quotes, quotedBrace, place string) {
	t.Helper()
	for _, c := range []struct{ way, want string }{
		{"plain", plain}, {"brace", brace}, {"pattern", pattern}, {"quotes", quotes}, {"quoted brace", quotedBrace}, {"place", place},
	} {
		if c.want == "" {
			continue
		}
		want := strings.ReplaceAll(c.want, "nothing", "")
		if got := readIn(t, c.way, s); got != want {
			t.Errorf("%q, %s: %s; want %s", s, c.way, got, want)
		}
	}
}

// The chapter's examples.
func TestExamples(t *testing.T) {
	for raw, want := range map[string]string{
		`a'b c'"d"`: "l[a]lq[b cd]", `"$x"`: "vq[x]", `""`: "lq[]", "${x:-a b}": "v[x : - (l[a b])]",
		`$(echo "a")$((1+2))`: `r[echo "a"]s[1+2]`, `"${x#*}"`: "vq[x # (l[*])]", "${}": "!", "a b": "!",
	} {
		checkParse(t, raw, want)
	}
}

// P5.1: a pair with each byte, in each of the ways.
func TestPairs(t *testing.T) {
	for c := range 256 {
		b := string([]byte{byte(c)})
		s, one, both := `\`+b, "lq["+b+"]", `lq[\`+b+"]"
		switch b {
		case "\n":
			checkWays(t, s, "nothing", "nothing", "nothing", "lq[]", "nothing", "nothing")
		case "$", `\`, "`":
			checkWays(t, s, one, one, one, one, one, one)
		case `"`:
			checkWays(t, s, one, one, one, one, one, both)
		case "}":
			checkWays(t, s, one, one, one, both, one, both)
		default:
			checkWays(t, s, one, one, one, both, both, both)
		}
	}
}

// P5.1: pairs beside others, and at the end of the text.
func TestPairsBeside(t *testing.T) {
	checkWays(t, `\a\$b`, "lq[a$]l[b]", "lq[a$]l[b]", "lq[a$]l[b]", `lq[\a$b]`, `lq[\a$b]`, `lq[\a$b]`)
	checkWays(t, "a\\\nb", "l[ab]", "l[ab]", "l[ab]", "lq[ab]", "lq[ab]", "lq[ab]")
	checkWays(t, "\\\n\\\n", "nothing", "nothing", "nothing", "lq[]", "nothing", "nothing")
	checkWays(t, "\\\\\n", "!", "lq[\\]l[\n]", "lq[\\]l[\n]", "lq[\\\n]", "lq[\\\n]", "lq[\\\n]")
	checkWays(t, `\\\}`, `lq[\}]`, `lq[\}]`, `lq[\}]`, `lq[\\}]`, `lq[\}]`, `lq[\\}]`)
	for _, c := range []struct{ s, plain, place string }{
		{`\`, `lq[\]`, `lq[\]`}, {`a\`, `l[a]lq[\]`, `lq[a\]`}, {`\\`, `lq[\]`, `lq[\]`}, {`\\\`, `lq[\\]`, `lq[\\]`},
		{`''\`, `lq[\]`, `lq[''\]`}, {`$\`, `lq[$\]`, `lq[$\]`}, {"\\\n\\", `lq[\]`, `lq[\]`}, {`$x\`, `v[x]lq[\]`, `vq[x]lq[\]`},
	} {
		checkParse(t, c.s, c.plain)
		checkHere(t, c.s, c.place)
	}
}

// P5.1: empty quotes of both kinds, alone and beside other parts.
func TestEmptyQuotes(t *testing.T) {
	for raw, want := range map[string]string{
		"": "", "''": "lq[]", `""`: "lq[]", "''''": "lq[]", `""""`: "lq[]", `''""`: "lq[]", `""''`: "lq[]",
		"''a": "lq[]l[a]", `""a`: "lq[]l[a]", "a''": "l[a]lq[]", `a""`: "l[a]lq[]", "a''b": "l[a]lq[]l[b]", `a""b`: "l[a]lq[]l[b]",
		`''\a`: "lq[a]", `\a""`: "lq[a]", `'a'""'b'`: "lq[ab]", `''"a"`: "lq[a]", `"a"''`: "lq[a]", "''$x": "lq[]v[x]", `$x""`: "v[x]lq[]",
		`""$x''`: "lq[]v[x]lq[]", `"$x"""`: "vq[x]lq[]", `"""$x"`: "lq[]vq[x]", "\"\\\n\"": "lq[]", "a\"\\\n\"b": "l[a]lq[]l[b]", "\\\n": "", "\\\n''": "lq[]",
		"${x-''}": "v[x - (lq[])]", `${x-""}`: "v[x - (lq[])]", "${x-}": "v[x -]", `${x-a""}`: "v[x - (l[a]lq[])]",
		`"${x-""}"`: "vq[x - (lq[])]", `"${x-}"`: "vq[x -]", `"${x-""""}"`: "vq[x - (lq[])]", `"${x-a""}"`: "vq[x - (lq[a])]", `"${x-""a}"`: "vq[x - (lq[a])]",
		`"${x-''}"`: "vq[x - (lq[''])]", "\"${x-\"\\\n\"}\"": "vq[x - (lq[])]", `"${x-$y""}"`: "vq[x - (vq[y]lq[])]", `"${x-""$y}"`: "vq[x - (lq[]vq[y])]",
		`"${x#""}"`: "vq[x # (lq[])]", `"${x#''}"`: "vq[x # (l[''])]", `"${x#""*}"`: "vq[x # (lq[]l[*])]", `"${x#*""}"`: "vq[x # (l[*]lq[])]",
		"${x#''*}": "v[x # (lq[]l[*])]",
	} {
		checkParse(t, raw, want)
	}
	for body, want := range map[string]string{
		"": "", `""`: `lq[""]`, "''": "lq['']", "\\\n": "", `${x-""}`: "vq[x - (lq[])]", "${x-''}": "vq[x - (lq[''])]", `${x#""}`: "vq[x # (lq[])]",
	} {
		checkHere(t, body, want)
	}
}

// P5.1: Lits that become one part, and Lits that don't.
func TestLits(t *testing.T) {
	for raw, want := range map[string]string{
		"abc": "l[abc]", `'a'"b"\c`: "lq[abc]", `a'b'c"d"e\f`: "l[a]lq[b]l[c]lq[d]l[e]lq[f]", `a\b'c'd`: "l[a]lq[bc]l[d]",
		"a$x'b'": "l[a]v[x]lq[b]", "a${x}b": "l[a]v[x]l[b]", "'a'${x}'b'": "lq[a]v[x]lq[b]", `"a${x}b"`: "lq[a]vq[x]lq[b]", `'a'"b${x}c"'d'`: "lq[ab]vq[x]lq[cd]",
		`$\a`: "lq[$a]", "$'a'": "lq[$a]", `$"a"`: "lq[$a]", "$.a": "lq[$]l[.a]", "a$": "l[a]lq[$]", "'a'$'b'": "lq[a$b]", "$$": "lq[$$]", "$$x": "lq[$]v[x]",
		"a#b": "l[a#b]", "#": "l[#]", "a=b~{}!": "l[a=b~{}!]", "\x00\xff\x80": "l[\x00\xff\x80]", "é": "l[é]", "'\xff'": "lq[\xff]",
		"'\"'": `lq["]`, `"'"`: "lq[']", `'\'`: `lq[\]`, "'$x`'": "lq[$x`]", "'a\nb'": "lq[a\nb]", "\"a\nb\"": "lq[a\nb]",
		"${x-a'b'c}": "v[x - (l[a]lq[b]l[c])]", `"${x-a"b"c}"`: "vq[x - (lq[abc])]", `"${x%a"b"c}"`: "vq[x % (l[a]lq[b]l[c])]",
	} {
		checkParse(t, raw, want)
	}
	checkHere(t, "a'b\"c\nd", "lq[a'b\"c\nd]")
}

// P5.1: Meta bytes, in each of the ways, and as parts of other things.
func TestMeta(t *testing.T) {
	for c := range 256 {
		b := string([]byte{byte(c)})
		if strings.Contains("\\'\"$}`", b) {
			continue
		}
		bare, quoted, plain := "l["+b+"]", "lq["+b+"]", "l["+b+"]"
		if strings.Contains(" \t\n|&;<>()", b) {
			plain = "!"
		}
		checkWays(t, b, plain, bare, bare, quoted, quoted, quoted)
		checkParse(t, "a"+b, strings.ReplaceAll(plain, "l[", "l[a"))
		checkParse(t, "$x''"+b, strings.ReplaceAll("v[x]lq[]"+plain, "v[x]lq[]!", "!"))
		checkParse(t, "\\"+b, strings.ReplaceAll("lq["+b+"]", "lq[\n]", ""))
		checkParse(t, "'"+b+"'", quoted)
	}
	for raw, want := range map[string]string{
		"()": "!", "a;": "!", "(a": "!", "a\n": "!", "$ ": "!", "$;": "!", "$\n": "!", "$)": "!", "$x|": "!", "''&": "!", "$(a;b) ": "!", "{a}": "l[{a}]",
		"$(a;b|c&(d)>e<f\n)": "r[a;b|c&(d)>e<f\n]", "${x-a;b|c&(d)>e<f\n}": "v[x - (l[a;b|c&(d)>e<f\n])]", "$((a;b))": "s[a;b]", "$((1|2<3))": "s[1|2<3]",
	} {
		checkParse(t, raw, want)
	}
}

// P5.1: a $ with a name, a Digit, each of @ * # ?, and with nothing of these behind it.
func TestDollar(t *testing.T) {
	const alphas = "abcdefghijklmnopqrstuvwxyzABCDEFGHIJKLMNOPQRSTUVWXYZ_"
	for c := range 256 {
		b := string([]byte{byte(c)})
		if strings.Contains("\\'\"`({}", b) || b == "$" {
			continue
		}
		s, v, dollar, quotedDollar := "$"+b, "["+b+"]", "lq[$]l["+b+"]", "lq[$"+b+"]"
		switch plain := dollar; {
		case strings.Contains(alphas+"0123456789@*#?", b):
			checkWays(t, s, "v"+v, "v"+v, "v"+v, "vq"+v, "vq"+v, "vq"+v)
		default:
			if strings.Contains(" \t\n|&;<>()", b) {
				plain = "!"
			}
			checkWays(t, s, plain, dollar, dollar, quotedDollar, quotedDollar, quotedDollar)
		}
	}
	checkWays(t, "$", "lq[$]", "lq[$]", "lq[$]", "lq[$]", "lq[$]", "lq[$]")
	checkWays(t, "a$", "l[a]lq[$]", "l[a]lq[$]", "l[a]lq[$]", "lq[a$]", "lq[a$]", "lq[a$]")
	checkWays(t, "$$x$", "lq[$]v[x]lq[$]", "lq[$]v[x]lq[$]", "lq[$]v[x]lq[$]", "lq[$]vq[x]lq[$]", "lq[$]vq[x]lq[$]", "lq[$]vq[x]lq[$]")
	checkWays(t, "$ab_1-$10$@a$#?", "v[ab_1]l[-]v[1]l[0]v[@]l[a]v[#]l[?]", "v[ab_1]l[-]v[1]l[0]v[@]l[a]v[#]l[?]", "v[ab_1]l[-]v[1]l[0]v[@]l[a]v[#]l[?]",
		"vq[ab_1]lq[-]vq[1]lq[0]vq[@]lq[a]vq[#]lq[?]", "vq[ab_1]lq[-]vq[1]lq[0]vq[@]lq[a]vq[#]lq[?]", "vq[ab_1]lq[-]vq[1]lq[0]vq[@]lq[a]vq[#]lq[?]")
	checkWays(t, "$1a$00$##", "v[1]l[a]v[0]l[0]v[#]l[#]", "v[1]l[a]v[0]l[0]v[#]l[#]", "", "vq[1]lq[a]vq[0]lq[0]vq[#]lq[#]", "", "vq[1]lq[a]vq[0]lq[0]vq[#]lq[#]")
	checkParse(t, "$xé$é", "v[x]l[é]lq[$]l[é]")
	checkParse(t, "$(a)$x${y}", "r[a]v[x]v[y]")
	checkParse(t, `"$"x`, "lq[$]l[x]")
	checkParse(t, `$""x`, "lq[$]l[x]")
	checkParse(t, "$\\\nx", "lq[$]l[x]")
	checkHere(t, `$"x"$'y'$`, `lq[$"x"$'y'$]`)
}

// P5.1: a run that is just one bracket, and one that isn't, in each of the ways.
func TestRuns(t *testing.T) {
	for s, part := range map[string]string{
		"$(a)": "r[a]", "$()": "r[]", "$( )": "r[ ]", "$(a b)": "r[a b]", "$(\n)": "r[\n]", "$($(a))": "r[$(a)]", `$("a" 'b' \c)`: `r["a" 'b' \c]`,
		"$(())": "s[]", "$((1))": "s[1]", "$((1+2))": "s[1+2]", "$(((1)))": "s[(1)]", "$((a)(b))": "r[(a)(b)]", "$((1)+(2))": "r[(1)+(2)]",
		"$( (a))": "r[ (a)]", "$((a) )": "r[(a) ]", "$((a)\n)": "r[(a)\n]", "$(()())": "r[()()]", "$((()))": "s[()]", "$((() ))": "s[() ]", "$(a(b))": "r[a(b)]", "$((a)b)": "r[(a)b]",
		"$((')'))": "s[')']", `$((")"))`: `s[")"]`, `$((\)))`: `s[\)]`, "$((${x-)}))": "s[${x-)}]", "$(('a)b(c'))": "s['a)b(c']", `$((\())`: `s[\(]`, `$((\() )`: `r[(\() ]`, `$(\((a))`: `r[\((a)]`,
		"$(($x))": "s[$x]", "$(($(a)))": "s[$(a)]", "$((a)$(b))": "r[(a)$(b)]", "$('(a)')": "r['(a)']", `$("(a)")`: `r["(a)"]`, "$(('))'))": "s['))']", "$((${x})(y))": "r[(${x})(y)]",
		"$(${})": "r[${}]", "$((${}))": "s[${}]",
	} {
		quoted := part[:1] + "q" + part[1:]
		checkWays(t, s, part, part, part, quoted, quoted, quoted)
		checkParse(t, s+"a"+s, part+"l[a]"+part)
		checkHere(t, "a"+s+"b", "lq[a]"+quoted+"lq[b]")
	}
}

// P5.1: each Op, with a : and without one, with words behind it and without one.
func TestOps(t *testing.T) {
	for _, sign := range strings.Fields("- = ? + # ## % %%") {
		for _, p := range strings.Fields("x long_Name9 @ * # ? 0 1 9 10 999") {
			for _, w := range []string{"", "a", "a b", ":", "/", "=", "-"} {
				op, in, quotedIn := " "+sign, "", ""
				if w != "" {
					in, quotedIn = " (l["+w+"])", " (lq["+w+"])"
				}
				if strings.ContainsAny(sign, "#%") {
					quotedIn = in
				}
				if p == "#" && w == "" && strings.Contains("# ?", sign) {
					continue // a Length
				}
				checkParse(t, "${"+p+sign+w+"}", "v["+p+op+in+"]")
				checkParse(t, `"${`+p+sign+w+`}"`, "vq["+p+op+quotedIn+"]")
				checkHere(t, "${"+p+sign+w+"}", "vq["+p+op+quotedIn+"]")
				if strings.ContainsAny(sign, "#%") {
					checkParse(t, "${"+p+":"+sign+w+"}", "!")
					continue
				}
				checkParse(t, "${"+p+":"+sign+w+"}", "v["+p+" :"+op+in+"]")
				checkParse(t, `"${`+p+":"+sign+w+`}"`, "vq["+p+" :"+op+quotedIn+"]")
			}
		}
	}
	for raw, want := range map[string]string{
		"${x###}": "v[x ## (l[#])]", "${x#%}": "v[x # (l[%])]", "${x%#}": "v[x % (l[#])]", "${x%%%}": "v[x %% (l[%])]", "${x--}": "v[x - (l[-])]", "${x::-a}": "!",
		"${x-:a}": "v[x - (l[:a])]", "${x?}": "v[x ?]", "${x:?}": "v[x : ?]", "${x:}": "!", "${x:a}": "!", "${x/}": "!", "${x!}": "!", "${x }": "!", "${x\n}": "!", "${x\\\n}": "!",
		"${x$}": "!", "${x'-'}": "!", "${x\\-}": "!", "${x.}": "!", "${x,}": "!", "${x~}": "!", "${x{}": "!", "${x(}": "!", "${xé}": "!", "${x@}": "!", "${x*}": "!", "${@@}": "!", "${x y}": "!",
		"${x:=$y}": "v[x : = (v[y])]", "${x+'a'$1}": "v[x + (lq[a]v[1])]", "${x##*/}": "v[x ## (l[*/])]", `${x%%"*"?}`: "v[x %% (lq[*]l[?])]",
		"${x-${y}}": "v[x - (v[y])]", "${x-${y:-${z#a}}b}": "v[x - (v[y : - (v[z # (l[a])])]l[b])]", "${x-$((1))$(a)}": "v[x - (s[1]r[a])]",
	} {
		checkParse(t, raw, want)
	}
}

// P5.1: # ahead of a parameter, # as the parameter, and parameters of every form.
func TestParameters(t *testing.T) {
	for _, p := range strings.Fields("x _ X9 a_B_1 @ * # ? 0 1 2 9 10 99 100 123 999") {
		checkParse(t, "${"+p+"}", "v["+p+"]")
		checkParse(t, `"${`+p+`}"`, "vq["+p+"]")
		checkHere(t, "${"+p+"}", "vq["+p+"]")
		checkParse(t, "${#"+p+"}", "v["+p+" length]")
		checkParse(t, `"${#`+p+`}"`, "vq["+p+" length]")
		checkHere(t, "${#"+p+"}", "vq["+p+" length]")
		checkParse(t, "${z-${#"+p+"}}", "v[z - (v["+p+" length])]")
		if p != "#" && p != "?" {
			checkParse(t, "${#"+p+"a b}", "!")
		}
		checkParse(t, "${##"+p+"}", "v[# "+map[bool]string{true: "##", false: "# (l[" + p + "])"}[p == "#"]+"]")
	}
	for _, p := range strings.Fields("00 01 09 007 0x 1x 10x 1_ 1234 9999 1000 0000 12345 ! - = $ + : / . é {} ( ' ''") {
		raw := "${" + p + "}"
		if p == "'" {
			raw = `"` + raw + `"`
		}
		checkParse(t, raw, "!")
		if p != "+" && p != "-" && p != "=" {
			checkHere(t, "${#"+p+"}", "!")
		}
	}
	for raw, want := range map[string]string{
		"${}": "!", "${ x}": "!", "${ }": "!", "${\\x}": "!", "${'x'}": "!", `${"x"}`: "!", "${$x}": "!", "${${x}}": "!", "${-a}": "!", "${:-a}": "!", "${%a}": "!", "${=}": "!",
		"${#}": "v[#]", "${##}": "v[# length]", "${###}": "v[# ##]", "${####}": "v[# ## (l[#])]", "${#-}": "v[# -]", "${#-a}": "v[# - (l[a])]", "${#:-a}": "v[# : - (l[a])]",
		"${#?}": "v[? length]", "${#??}": "v[# ? (l[?])]", "${#?a}": "v[# ? (l[a])]", "${#:?}": "v[# : ?]", "${#=}": "v[# =]", "${#+}": "v[# +]", "${#%}": "v[# %]", "${#%%}": "v[# %%]", "${#%a}": "v[# % (l[a])]",
		"${##x}": "v[# # (l[x])]", "${#@}": "v[@ length]", "${#@a}": "!", "${#x-}": "!", "${#x:-a}": "!", "${#x#}": "!", "${#1-}": "!", "${##-}": "v[# # (l[-])]", "${##%}": "v[# # (l[%])]", "${#:}": "!", "${# x}": "!", "${#${x}}": "!",
		"${#'x'}": "!", "${##'x'}": "v[# # (lq[x])]", "${##${x}}": "v[# # (v[x])]", "${#$}": "!", "${#!}": "!",
		"${?}": "v[?]", "${??}": "v[? ?]", "${?-}": "v[? -]", "${*#a}": "v[* # (l[a])]", "${@%%a}": "v[@ %% (l[a])]", "${0-}": "v[0 -]", "${0#a}": "v[0 # (l[a])]", "${12:+a}": "v[12 : + (l[a])]", "${123-4}": "v[123 - (l[4])]", "${1234-}": "!", "${01-}": "!", "${00-}": "!",
		"$(a)${b}": "r[a]v[b]", "${x}y": "v[x]l[y]", "${x}}": "v[x]l[}]",
	} {
		checkParse(t, raw, want)
	}
}

// P5.1: quoted braces within braces and quotes, and patterns in quoted braces.
func TestQuotedBraces(t *testing.T) {
	for raw, want := range map[string]string{
		`"${x-'a'}"`: "vq[x - (lq['a'])]", `"${x-'}"`: "vq[x - (lq['])]", "${x-'}'}": "v[x - (lq[}])]", `"${x-*'}"`: "vq[x - (lq[*'])]", `"${x-a\}b}"`: "vq[x - (lq[a}b])]", `"${x-"a\}"}"`: `vq[x - (lq[a\}])]`,
		`"${x-\a\"\\\$}"`: `vq[x - (lq[\a"\$])]`, `"${x-$y}"`: "vq[x - (vq[y])]", `"${x-"$y"}"`: "vq[x - (vq[y])]", `"${x-${y-'}}"`: "vq[x - (vq[y - (lq['])])]", `"${x-"${y-'}"}"`: "vq[x - (vq[y - (lq['])])]",
		`"${x-${y}$(a)$((1))$}"`: "vq[x - (vq[y]rq[a]sq[1]lq[$])]", `"${x-"a b"c}"`: "vq[x - (lq[a bc])]", `"${x=a b;(}"`: "vq[x = (lq[a b;(])]", `"${x-a${y#'}b}"`: "vq[x - (lq[a]vq[y # (l['])]lq[b])]",

		`${x-"${y-'}"}`: "v[x - (vq[y - (lq['])])]", `${x-"$y"}`: "v[x - (vq[y])]", `${x-"${y#'}"}`: "v[x - (vq[y # (l['])])]", `${x-${y-'a'}}`: "v[x - (v[y - (lq[a])])]", `${x#"$y"}`: "v[x # (vq[y])]", `${x#"*"'?'\[*}`: "v[x # (lq[*?[]l[*])]",
		`${x-"a\}"}`: `v[x - (lq[a\}])]`, `${x-a\}}`: "v[x - (l[a]lq[}])]", `${x-"\a"\a}`: `v[x - (lq[\aa])]`, "${x-'a\\}'}": `v[x - (lq[a\}])]`,

		`"${x#*}"`: "vq[x # (l[*])]", `"${x##*}"`: "vq[x ## (l[*])]", `"${x%*}"`: "vq[x % (l[*])]", `"${x%%*}"`: "vq[x %% (l[*])]", `"${x%'}"`: "vq[x % (l['])]", `"${x%'*'}"`: "vq[x % (l['*'])]", `"${x%\*}"`: "vq[x % (lq[*])]", `"${x%\'\}\a}"`: "vq[x % (lq['}a])]",
		`"${x%"*"?}"`: "vq[x % (lq[*]l[?])]", `"${x%"\*\}\""}"`: `vq[x % (lq[\*\}"])]`, "\"${x%a\\\nb}\"": "vq[x % (l[ab])]", `"${x%$y}"`: "vq[x % (v[y])]", `"${x%"$y"}"`: "vq[x % (vq[y])]", `"${x%$}"`: "vq[x % (lq[$])]", `"${x%$(a)$((1))}"`: "vq[x % (r[a]s[1])]", `"${x% a;b}"`: "vq[x % (l[ a;b])]",
		`"${x%${y-'}}"`: "vq[x % (v[y - (lq['])])]", `"${x%${y-a"b"\}}}"`: "vq[x % (v[y - (lq[ab}])])]", `"${x%${y%'"*"}}"`: "vq[x % (v[y % (l[']lq[*])])]", `"${x%"${y%'*}"}"`: "vq[x % (vq[y % (l['*])])]", `"${x%"${y-'*}"}"`: "vq[x % (vq[y - (lq['*])])]", `"${x%${y}}"`: "vq[x % (v[y])]", `"${x%${#y}}"`: "vq[x % (v[y length])]",
		`"${x-${y%*}}"`: "vq[x - (vq[y % (l[*])])]", `"${x-${y%$z}}"`: "vq[x - (vq[y % (v[z])])]", `"a${x}b${y-c}d"`: "lq[a]vq[x]lq[b]vq[y - (lq[c])]lq[d]", `"$("${x}")"`: `rq["${x}"]`,
	} {
		checkParse(t, raw, want)
	}
	for body, want := range map[string]string{
		`${x-a"b"}`: "vq[x - (lq[ab])]", `${x-'a'}`: "vq[x - (lq['a'])]", `${x-\"\}\a}`: `vq[x - (lq["}\a])]`, `${x%'"*"\*}`: "vq[x % (l[']lq[**])]", `${x%$y"$z"}`: "vq[x % (v[y]vq[z])]", `${x-"${y-'}"}`: "vq[x - (vq[y - (lq['])])]", `"${x}"`: `lq["]vq[x]lq["]`, `"${x-"}"}"`: `lq["]vq[x - (lq[}])]lq["]`,
		"a $x\n": "lq[a ]vq[x]lq[\n]", `"'\$\"`: `lq["'$\"]`, "a\\\nb": "lq[ab]", "$(a)$((1))": "rq[a]sq[1]", "'${x-'}'": "lq[']vq[x - (lq['])]lq[']", `\"${x}`: `lq[\"]vq[x]`, `\${x}`: "lq[${x}]", `\\${x}`: `lq[\]vq[x]`, "\\`a": "lq[`a]",
	} {
		checkHere(t, body, want)
	}
}

// P5.1: texts of 4096 bytes, and of more.
func TestParseBig(t *testing.T) {
	a := strings.Repeat("a", 4096)
	checkParse(t, a, "l["+a+"]")
	checkHere(t, a, "lq["+a+"]")
	checkParse(t, "'"+a[2:]+"'", "lq["+a[2:]+"]")
	checkParse(t, a[5:]+"${x}b", "l["+a[5:]+"]v[x]l[b]")
	checkParse(t, "$("+a[3:]+")", "r["+a[3:]+"]")
	for _, raw := range []string{a + "a", a + " ", " " + a, "'" + a, a + "`", "${}" + a, "'" + a[1:] + "'", "$(" + a[2:] + ")", strings.Repeat("\\\n", 2048) + "a", a + a} {
		checkParse(t, raw, "error 3")
		checkHere(t, raw, "error 3")
	}
	checkParse(t, strings.Repeat("\\\n", 2048), "")
	checkParse(t, strings.Repeat("''", 2048), "lq[]")
	checkParse(t, strings.Repeat("$1", 2048), strings.Repeat("v[1]", 2048))
}

// P5.1: what is wrong first is told, from the front on; of a thing lex's error, ahead of what is wrong within it.
func TestFirstError(t *testing.T) {
	deep := strings.Repeat("$(", 41)
	for raw, want := range map[string]string{
		"'a": "error 11", `"a`: "error 11", "${x": "error 11", "$(a": "error 11", "$((1)": "error 11", "`": "!", "a`b`": "!", "\"`\"": "!", "$`": "!", "'`": "error 11", deep: "error 3",
		"a b'": "!", "'a b": "error 11", "${}'": "!", "'${}": "error 11", `${}"`: "!", `"${}`: "error 11", "${x-${}": "error 11", "${x-${}}'": "!", "`'": "!", "'a'`": "!", "${}" + deep: "!", " " + deep: "!", deep + " ": "error 3",
		"${" + deep: "error 3", "\"${}" + deep: "error 3", "${x-" + deep: "error 3", "${`" + deep: "!", "$(`": "!", "$(${}": "error 11", "$(${})": "r[${}]", "${}${": "!", "${x}${": "error 11", `"${}"'`: "!", `"${x/}"`: "!", `"${x-${y/}}"`: "!", "${x-'": "error 11", "${x-'}": "error 11",
		`"${x-'}"`: "vq[x - (lq['])]", `"${x-"}"`: "error 11", "a\n'": "!", "a(b": "!", "$(a))": "!", "${x-$(}": "error 11", "${/'": "error 11", "${/}'": "!", "\"a\"b\"": "error 11", "\"${x#${y/}}\"": "!", "${x#${/}}": "!",
	} {
		checkParse(t, raw, want)
	}
	for body, want := range map[string]string{
		"'a": "lq['a]", `"a`: `lq["a]`, "a b;(": "lq[a b;(]", "`": "!", "\"`": "!", "${x": "error 11", "$(": "error 11", "${}`": "!", "${}${": "!", "${": "error 11", "${x-\"": "error 11", "${x-'": "error 11", "${x-'}": "vq[x - (lq['])]", "$('": "error 11", "$(')": "error 11",
		deep: "error 3", "${}" + deep: "!", "${" + deep: "error 3", "$x" + deep: "error 3", `"${}"'${`: "!", "${x%${y/}}": "!", "`${": "!", "${`": "!",
	} {
		checkHere(t, body, want)
	}
}

// P5.1: 40 within one another are read, 41 are not.
func TestDepth(t *testing.T) {
	for _, c := range []struct{ open, end string }{{"${x-", "}"}, {"${x#", "}"}, {"$(", ")"}, {`"${x-`, `}"`}, {`"${x%`, `}"`}, {`"$(`, `)"`}} {
		each := strings.Count(c.open, `"`) + 1
		for n := 38 / each; n <= 42/each; n++ {
			s := strings.Repeat(c.open, n) + "a" + strings.Repeat(c.end, n)
			w, e := word.Parse(s)
			if n*each <= 40 && (e != api.OK || len(w) != 1) || n*each > 40 && (e != api.ErrBig || w != nil) {
				t.Errorf("%d of %s: %v", n, c.open, e)
			}
			if each == 1 {
				if w, e = word.Here(s); n <= 40 && (e != api.OK || len(w) != 1) || n > 40 && (e != api.ErrBig || w != nil) {
					t.Errorf("Here, %d of %s: %v", n, c.open, e)
				}
			}
		}
	}
}

// all hands each row of at most n of the parts to do, one behind the other.
func all(n int, parts []string, do func(s string)) {
	var more func(s string, n int)
	more = func(s string, n int) {
		do(s)
		if n == 0 {
			return
		}
		for _, p := range parts {
			more(s+p, n-1)
		}
	}
	more("", n)
}

// broken tells whether a text has a \ and a byte 10 directly behind a sign. These become nothing, so that the sign, when it
// is written, goes on in what stood behind them (${x#, \, byte 10, #} would be ${x##}): P5.2 refuses such a word.
func broken(s string) bool {
	return strings.Contains(s, "#\\\n") || strings.Contains(s, "%\\\n") || strings.Contains(s, "?\\\n")
}

// hold holds Parse and Here of a text against the oracle, and what they answer against P5.4.
func hold(t *testing.T, s string) {
	t.Helper()
	for _, c := range []struct {
		name, way string
		read      func(string) (api.Word, api.Errno)
		write     func(api.Word) (string, api.Errno)
	}{{"Parse", "plain", word.Parse, word.Print}, {"Here", "place", word.Here, word.PrintHere}} {
		w, e := c.read(s)
		want, wantErr := parseOracle(s, c.way)
		if e != wantErr || answer(w, e) != answer(want, wantErr) {
			t.Fatalf("%s(%q): %s; want %s", c.name, s, answer(w, e), answer(want, wantErr))
		}
		if e != api.OK || len(s) > 300 || strings.Count(s, `"`)+strings.Count(s, "{")+strings.Count(s, "(") > 37 {
			continue
		}
		text, f := c.write(w)
		if back, _ := parseOracle(writeOracle(w, c.way), c.way); broken(s) && !sameOracle(back, w) {
			if text != "" || f != api.ErrArg {
				t.Fatalf("%s(%q), %s, printed: %q, %v; want ErrArg", c.name, s, shown(w), text, f)
			}
			continue
		}
		if f != api.OK || text != writeOracle(w, c.way) {
			t.Fatalf("%s(%q), %s, printed: %q, %v; want %q", c.name, s, shown(w), text, f, writeOracle(w, c.way))
		}
		if back, g := c.read(text); g != api.OK || shown(back) != shown(w) || !word.Same(back, w) {
			t.Fatalf("%s(%q), printed %q: %s; want %s", c.name, s, text, answer(back, g), shown(w))
		}
	}
}

// P5.1, P5.4, R1: all short texts of the bytes that matter, in each of the ways, are as the oracle has them, and can be printed.
func TestShortTexts(t *testing.T) {
	letters := strings.Split("\\'\"${}()`a#-\n", "")
	all(5, letters, func(s string) { hold(t, s) })
	all(3, append(letters, "%", ":", "?", "1", "0", " ", "$x", "${", "$("), func(s string) {
		for _, c := range []struct{ ahead, behind string }{
			{"${", "}"}, {"${x", "}"}, {"${x-", "}"}, {`"`, `"`}, {`"${x-`, `}"`}, {`"${x#`, `}"`}, {"$((", "))"}, {`"${x-"`, `"}"`}, {`"${x%${y-`, `}}"`},
		} {
			hold(t, c.ahead+s+c.behind)
		}
	})
}

// P5.1, P5.4, R1: texts written by a rule are as the oracle has them, and can be printed.
func TestWrittenTexts(t *testing.T) {
	w := writer{1}
	for n := range 150000 {
		hold(t, w.text(1+n%4, n%6))
	}
}

// P5.1, R2: what is answered is the caller's: no two lists of it share memory, nor do two answers.
func TestAnswersOfTheirOwn(t *testing.T) {
	const raw = `a'b'${x-c"$y"${z#d}e}$1"${y%${z-f}g}h"`
	w, _ := word.Parse(raw)
	again, _ := word.Parse(raw)
	want := shown(w)
	var each func(w api.Word, do func(w api.Word))
	each = func(w api.Word, do func(w api.Word)) {
		do(w)
		for _, p := range w {
			each(p.Word, do)
		}
	}
	each(w, func(l api.Word) { _ = append(l, api.Part{Kind: api.Lit, Text: "?"}) })
	if shown(w) != want {
		t.Errorf("behind a list another one stands: %s; want %s", shown(w), want)
	}
	each(w, func(l api.Word) {
		for i := range l {
			l[i].Kind, l[i].Text, l[i].Op = 9, "?", 9
		}
	})
	third, _ := word.Parse(raw)
	if shown(again) != want || shown(third) != want {
		t.Errorf("%s and %s; want %s", shown(again), shown(third), want)
	}
}
