package word_test

import (
	"strings"
	"testing"

	"conch/api"
	"conch/word"
)

// l is a Lit that isn't quoted, q one that is.
func l(text string) api.Part { return api.Part{Kind: api.Lit, Text: text} }
func q(text string) api.Part { return api.Part{Kind: api.Lit, Text: text, Quote: true} }

// v is a Var with an Op and a word.
func v(text string, op int, w ...api.Part) api.Part {
	return api.Part{Kind: api.Var, Text: text, Op: op, Word: w}
}

// r is a Run, s a Sum.
func r(text string) api.Part { return api.Part{Kind: api.Run, Text: text} }
func s(text string) api.Part { return api.Part{Kind: api.Sum, Text: text} }

// quoted is a part, quoted.
func quoted(p api.Part) api.Part {
	p.Quote = true
	return p
}

// colon is a part with a Colon.
func colon(p api.Part) api.Part {
	p.Colon = true
	return p
}

// checkPrint holds what is printed against what is wanted; an empty want of a word that has parts: ErrArg.
func checkPrint(t *testing.T, w api.Word, plain, place string) {
	t.Helper()
	for _, c := range []struct {
		name, want string
		print      func(api.Word) (string, api.Errno)
	}{{"Print", plain, word.Print}, {"PrintHere", place, word.PrintHere}} {
		want := api.OK
		if c.want == "" && len(w) > 0 {
			want = api.ErrArg
		}
		if got, e := c.print(w); got != c.want || e != want {
			t.Errorf("%s(%.80s): %.80q, %v; want %.80q, %v", c.name, shown(w), got, e, c.want, want)
		}
	}
}

// P5.2: the text of each part, Plain and In place.
func TestPrint(t *testing.T) {
	for _, c := range []struct {
		w            api.Word
		plain, place string
	}{
		{nil, "", ""}, {api.Word{}, "", ""},
		{api.Word{l("a")}, "a", ""}, {api.Word{q("a")}, "'a'", "a"}, {api.Word{q("")}, "''", ""}, {api.Word{q("a b")}, "'a b'", "a b"}, {api.Word{q("it's")}, `'it'\''s'`, "it's"},
		{api.Word{q("$\"\\`}'\n")}, "'$\"\\`}'\\''\n'", "\\$\"\\\\\\`}'\n"}, {api.Word{q("\x00\xff")}, "'\x00\xff'", "\x00\xff"}, {api.Word{q("\\\n")}, "'\\\n'", "\\\\\n"}, {api.Word{q(`\`)}, `'\'`, `\\`},
		{api.Word{l("a"), q("b"), l("c")}, "a'b'c", ""}, {api.Word{q(""), l("a")}, "''a", ""}, {api.Word{l("a"), q("")}, "a''", ""}, {api.Word{l("a"), q(""), l("b")}, "a''b", ""},
		{api.Word{v("x", 0)}, "${x}", ""}, {api.Word{quoted(v("x", 0))}, `"${x}"`, "${x}"}, {api.Word{v("x", 0), l("y")}, "${x}y", ""}, {api.Word{quoted(v("x", 0)), q("y")}, `"${x}"'y'`, "${x}y"},
		{api.Word{q("$"), v("x", 0)}, "'$'${x}", ""}, {api.Word{q("$"), quoted(v("x", 0))}, `'$'"${x}"`, `\$${x}`}, {api.Word{v("@", 0), v("10", 0), v("#", 0), v("?", 0), v("0", 0)}, "${@}${10}${#}${?}${0}", ""},
		{api.Word{q(""), quoted(v("x", 0)), q("")}, `''"${x}"''`, ""},
		{api.Word{v("x", api.Length)}, "${#x}", ""}, {api.Word{quoted(v("#", api.Length))}, `"${##}"`, "${##}"}, {api.Word{v("@", api.Length), v("999", api.Length)}, "${#@}${#999}", ""},
		{api.Word{r("a b")}, "$(a b)", ""}, {api.Word{quoted(r("a"))}, `"$(a)"`, "$(a)"}, {api.Word{s("1+2")}, "$((1+2))", ""}, {api.Word{quoted(s("1"))}, `"$((1))"`, "$((1))"}, {api.Word{r("")}, "$()", ""}, {api.Word{s("")}, "$(())", ""},
		{api.Word{r("(a) ")}, "$((a) )", ""}, {api.Word{r("(1)+(2)")}, "$((1)+(2))", ""}, {api.Word{s("(1)")}, "$(((1)))", ""}, {api.Word{r("${}")}, "$(${})", ""},
	} {
		checkPrint(t, c.w, c.plain, c.place)
	}
}

// P5.2: each Op, with its Colon.
func TestPrintOps(t *testing.T) {
	for op, sign := range map[int]string{
		api.Default: "-", api.Assign: "=", api.Fail: "?", api.Instead: "+", api.Front: "#", api.Fronts: "##", api.Back: "%", api.Backs: "%%",
	} {
		in, quotedIn := q("b c"), "b c"
		if op >= api.Front {
			quotedIn = `"b c"`
		}
		checkPrint(t, api.Word{v("x", op)}, "${x"+sign+"}", "")
		checkPrint(t, api.Word{v("x", op, l("a"), in)}, "${x"+sign+"a'b c'}", "")
		checkPrint(t, api.Word{quoted(v("x", op, in))}, `"${x`+sign+quotedIn+`}"`, "${x"+sign+quotedIn+"}")
		checkPrint(t, api.Word{quoted(v("x", op))}, `"${x`+sign+`}"`, "${x"+sign+"}")
		if op >= api.Front {
			checkPrint(t, api.Word{colon(v("x", op, in))}, "", "")
			checkPrint(t, api.Word{quoted(colon(v("x", op, in)))}, "", "")
			continue
		}
		checkPrint(t, api.Word{colon(v("x", op, in))}, "${x:"+sign+"'b c'}", "")
		checkPrint(t, api.Word{quoted(colon(v("x", op, in)))}, `"${x:`+sign+`b c}"`, "${x:"+sign+"b c}")
	}
}

// P5.2: words in braces: In a brace, In a quoted brace, As a quoted pattern, and these in one another.
func TestPrintWithin(t *testing.T) {
	const odd = "$\"\\`}'"
	for _, c := range []struct {
		w            api.Word
		plain, place string
	}{
		{api.Word{v("x", api.Default, q(odd))}, "${x-'$\"\\`}'\\'''}", ""},
		{api.Word{quoted(v("x", api.Default, q(odd)))}, "\"${x-\\$\\\"\\\\\\`\\}'}\"", "${x-\\$\\\"\\\\\\`\\}'}"},
		{api.Word{quoted(v("x", api.Front, q(odd)))}, "\"${x#\"\\$\\\"\\\\\\`}'\"}\"", "${x#\"\\$\\\"\\\\\\`}'\"}"},
		{api.Word{v("x", api.Front, q(odd), l("*"))}, "${x#'$\"\\`}'\\'''*}", ""},
		{api.Word{quoted(v("x", api.Back, l("'*"), q("*"), l("?")))}, `"${x%'*"*"?}"`, `${x%'*"*"?}`},

		{api.Word{v("x", api.Default, q(""))}, "${x-''}", ""}, {api.Word{quoted(v("x", api.Default, q("")))}, `"${x-""}"`, `${x-""}`}, {api.Word{quoted(v("x", api.Front, q("")))}, `"${x#""}"`, `${x#""}`},
		{api.Word{quoted(v("x", api.Default, q(""), quoted(v("y", 0)), q("")))}, `"${x-""${y}""}"`, `${x-""${y}""}`}, {api.Word{v("x", api.Default, l("a b;("))}, "${x-a b;(}", ""},

		{api.Word{v("x", api.Default, v("y", 0), quoted(v("z", 0)))}, `${x-${y}"${z}"}`, ""},
		{api.Word{quoted(v("x", api.Default, quoted(v("y", 0)), quoted(r("a")), quoted(s("1"))))}, `"${x-${y}$(a)$((1))}"`, "${x-${y}$(a)$((1))}"},
		{api.Word{quoted(v("x", api.Back, v("y", 0), quoted(v("z", 0)), quoted(r("a")), s("1")))}, `"${x%${y}"${z}""$(a)"$((1))}"`, `${x%${y}"${z}""$(a)"$((1))}`},
		{api.Word{v("x", api.Back, v("y", api.Default, q("'")))}, `${x%${y-''\'''}}`, ""},
		{api.Word{v("x", api.Default, quoted(v("y", api.Default, q("'"))))}, `${x-"${y-'}"}`, ""},
		{api.Word{v("x", api.Default, quoted(v("y", api.Back, q("'"), l("'"))))}, `${x-"${y%"'"'}"}`, ""},
		{api.Word{quoted(v("x", api.Back, v("y", api.Default, q("'}"))))}, `"${x%${y-'\}}}"`, `${x%${y-'\}}}`},
		{api.Word{quoted(v("x", api.Back, v("y", api.Back, q("'}"), l("'"))))}, `"${x%${y%"'}"'}}"`, `${x%${y%"'}"'}}`},
		{api.Word{quoted(v("x", api.Back, quoted(v("y", api.Default, q("'}")))))}, `"${x%"${y-'\}}"}"`, `${x%"${y-'\}}"}`},
		{api.Word{quoted(v("x", api.Back, quoted(v("y", api.Back, l("'")))))}, `"${x%"${y%'}"}"`, `${x%"${y%'}"}`},
		{api.Word{quoted(v("x", api.Default, quoted(v("y", api.Back, l("'"), q("a"), v("z", 0)))))}, `"${x-${y%'"a"${z}}}"`, `${x-${y%'"a"${z}}}`},
		{api.Word{quoted(v("x", api.Default, quoted(v("y", api.Assign, q("a'")))))}, `"${x-${y=a'}}"`, `${x-${y=a'}}`},
	} {
		checkPrint(t, c.w, c.plain, c.place)
	}
}

// P5.2: words that can't be written: ErrArg, and no text.
func TestPrintRefuses(t *testing.T) {
	for _, w := range []api.Word{
		{l("")}, {l("a b")}, {l("$")}, {l("$x")}, {l("'")}, {l("'a'")}, {l(`"`)}, {l(`\`)}, {l(`\a`)}, {l("`")}, {l("a\n")}, {l(";")}, {l("("), l(")")}, {l("a"), l("b")}, {l("a"), l("")}, {l(""), q("a")},
		{q("a"), q("b")}, {q(""), q("")}, {q(""), q("a")}, {q("a"), q("")}, {{}}, {{Kind: 9}}, {{Kind: -1}}, {{Kind: 9, Text: "a", Quote: true}}, {l("a"), {Kind: 5}}, {{Text: "a"}},
		{v("", 0)}, {v("a b", 0)}, {v("x-", 0)}, {v("00", 0)}, {v("1234", 0)}, {v("#x", 0)}, {v("!", 0)}, {v("x}", 0)}, {v("x}${y", 0)}, {v("", api.Default)}, {v("x-y", api.Default)}, {v("x:", api.Default)}, {v("x#", api.Front)}, {v("x-a", api.Default, l("b"))},
		{v("", api.Length)}, {v("x-", api.Length)}, {v("#x", api.Length)}, {v("#", api.Front)}, {v("#", api.Fail)}, {v("x", api.Front, l("#"))}, {v("x", api.Back, l("%a"))},
		{v("x", -1)}, {v("x", 10)}, {v("x", 10, l("a"))}, {quoted(v("x", 10))}, {v("x", -1<<63)}, {v("x", 1<<63-1)}, {colon(v("x", 0))}, {colon(v("x", api.Length))}, {v("x", 0, l("a"))}, {v("x", api.Length, l("a"))},
		{{Kind: api.Lit, Text: "a", Op: 1}}, {{Kind: api.Lit, Text: "a", Colon: true}}, {{Kind: api.Lit, Text: "a", Word: api.Word{l("b")}}}, {{Kind: api.Run, Text: "a", Op: 2}}, {{Kind: api.Run, Text: "a", Colon: true}}, {{Kind: api.Sum, Text: "1", Word: api.Word{l("b")}}},
		{r("(a)")}, {r("()")}, {r("a)")}, {r("(")}, {r("'")}, {r(")(")}, {r("`")}, {r(`\`)}, {s("1)")}, {s("(")}, {s("1)+(2")}, {s(")(")}, {s("`")},
		{v("x", api.Default, l(""))}, {v("x", api.Default, l("}"))}, {v("x", api.Default, l("a"), l("b"))}, {v("x", api.Default, q("a"), q("b"))}, {v("x", api.Default, l("'"))}, {v("x", api.Default, api.Part{Kind: 9})},
		{quoted(v("x", api.Default, l("a")))}, {quoted(v("x", api.Default, v("y", 0)))}, {quoted(v("x", api.Default, r("a")))}, {quoted(v("x", api.Default, q(""), q("a")))}, {quoted(v("x", api.Default, q("a"), q("")))}, {quoted(v("x", api.Front, v("y", api.Default, l("a"))))},
		{quoted(v("x", api.Front, l("}")))}, {quoted(v("x", api.Front, l(`"`)))}, {quoted(v("x", api.Front, q("a"), q("b")))},
	} {
		checkPrint(t, w, "", "")
	}
	for _, w := range []api.Word{{q("")}, {q("a"), q("b")}, {l("a")}, {v("x", 0)}, {r("a")}, {s("1")}, {q("a"), l("b")}, {quoted(v("x", 0)), q("")}, {q(""), quoted(v("x", 0))}, {v("x", api.Default)}} {
		if text, e := word.PrintHere(w); text != "" || e != api.ErrArg {
			t.Errorf("PrintHere(%s): %q, %v", shown(w), text, e)
		}
	}
}

// P5.2: texts of 4096 bytes are printed, those of more are refused; so are words that go on for ever.
func TestPrintBig(t *testing.T) {
	a := strings.Repeat("a", 4096)
	checkPrint(t, api.Word{l(a)}, a, "")
	checkPrint(t, api.Word{l(a + "a")}, "", "")
	checkPrint(t, api.Word{q(a[2:])}, "'"+a[2:]+"'", a[2:])
	checkPrint(t, api.Word{q(a)}, "", a)
	checkPrint(t, api.Word{q(a + "a")}, "", "")
	checkPrint(t, api.Word{q(strings.Repeat("$", 2048))}, "'"+strings.Repeat("$", 2048)+"'", strings.Repeat(`\$`, 2048))
	checkPrint(t, api.Word{q(strings.Repeat("$", 2049))}, "'"+strings.Repeat("$", 2049)+"'", "")
	var many api.Word
	for range 1024 {
		many = append(many, v("x", 0))
	}
	checkPrint(t, many, strings.Repeat("${x}", 1024), "")
	checkPrint(t, append(many, l("a")), "", "")
	checkPrint(t, append(many, q("")), "", "")

	for _, op := range []int{api.Default, api.Back, api.Plain} {
		round := api.Word{v("x", op), v("y", op)}
		round[0].Word, round[1].Word = round, round
		checkPrint(t, round, "", "")
		long := api.Word{v("", op)}
		for range 1 << 16 {
			long = api.Word{v("", op, long...)}
		}
		checkPrint(t, long, "", "")
	}
}

// P5.2: 40 within one another are printed, 41 are not.
func TestPrintDepth(t *testing.T) {
	for n := 38; n <= 43; n++ {
		w := api.Word{q("a")}
		plain, place := "a", "a"
		for range n {
			w = api.Word{quoted(v("x", api.Default, w...))}
			plain, place = "${x-"+plain+"}", "${x-"+place+"}"
		}
		plain = `"` + plain + `"`
		if n > 39 {
			plain = ""
		}
		if n > 40 {
			place = ""
		}
		checkPrint(t, w, plain, place)
	}
}

// P5.2: words of all kinds of parts are printed as the oracle has them, if that is read as them.
func TestPrintWords(t *testing.T) {
	w, printed := writer{2}, 0
	for range 200000 {
		wanted := w.word(3)
		before := shown(wanted)
		for way, c := range map[string]func(api.Word) (string, api.Errno){"plain": word.Print, "place": word.PrintHere} {
			text, want := writeOracle(wanted, way), api.OK
			if back, e := parseOracle(text, way); e != api.OK || !sameOracle(back, wanted) {
				text, want = "", api.ErrArg
			} else {
				printed++
			}
			if got, e := c(wanted); got != text || e != want {
				t.Fatalf("%s, %s: %q, %v; want %q, %v", shown(wanted), way, got, e, text, want)
			}
		}
		if shown(wanted) != before {
			t.Fatalf("%s was changed to %s", before, shown(wanted))
		}
	}
	if printed < 20000 {
		t.Errorf("only %d were printed", printed)
	}
}

// sameOracle tells whether two words are the same, field by field.
func sameOracle(a, b api.Word) bool {
	for i := range max(len(a), len(b)) {
		if i >= len(a) || i >= len(b) || !sameOracle(a[i].Word, b[i].Word) {
			return false
		}
		p, q := a[i], b[i]
		if p.Kind != q.Kind || p.Text != q.Text || p.Quote != q.Quote || p.Op != q.Op || p.Colon != q.Colon {
			return false
		}
	}
	return true
}

// P5.3: a word is the same as itself; one of which anything is otherwise is not.
func TestSame(t *testing.T) {
	full := func() api.Word {
		return api.Word{l("a"), colon(quoted(v("x", api.Default, q("b"), v("y", api.Back, l("c"), r("d"))))), s("1")}
	}
	if !word.Same(full(), full()) || !word.Same(nil, nil) || !word.Same(nil, api.Word{}) || !word.Same(api.Word{}, nil) {
		t.Error("the same words are not the same")
	}
	if a, b := (api.Word{v("x", api.Default)}), (api.Word{{Kind: api.Var, Text: "x", Op: api.Default, Word: api.Word{}}}); !word.Same(a, b) || !word.Same(b, a) {
		t.Error("an empty word in a word is not the same as none")
	}
	changes := []func(p *api.Part){
		func(p *api.Part) { p.Kind++ }, func(p *api.Part) { p.Text += "a" }, func(p *api.Part) { p.Text = "?" }, func(p *api.Part) { p.Quote = !p.Quote }, func(p *api.Part) { p.Op++ },
		func(p *api.Part) { p.Colon = !p.Colon }, func(p *api.Part) { p.Word = append(p.Word[:len(p.Word):len(p.Word)], l("")) },
	}
	paths := []func(w api.Word) *api.Part{
		func(w api.Word) *api.Part { return &w[0] }, func(w api.Word) *api.Part { return &w[1] }, func(w api.Word) *api.Part { return &w[2] }, func(w api.Word) *api.Part { return &w[1].Word[0] },
		func(w api.Word) *api.Part { return &w[1].Word[1] }, func(w api.Word) *api.Part { return &w[1].Word[1].Word[0] }, func(w api.Word) *api.Part { return &w[1].Word[1].Word[1] },
	}
	for i, change := range changes {
		for j, path := range paths {
			w := full()
			change(path(w))
			if word.Same(w, full()) || word.Same(full(), w) || !word.Same(w, w) {
				t.Errorf("change %d of part %d", i, j)
			}
		}
	}
	if w := full(); word.Same(w, w[:2]) || word.Same(w[:2], w) || word.Same(w, nil) || word.Same(nil, w) || word.Same(w[:2], w[1:]) || word.Same(api.Word{l("a"), l("b")}, api.Word{l("b"), l("a")}) {
		t.Error("words of other parts are the same")
	}
	deep, other := api.Word{l("a")}, api.Word{l("b")}
	for range 1 << 16 {
		deep, other = api.Word{v("x", api.Default, deep...)}, api.Word{v("x", api.Default, other...)}
	}
	if !word.Same(deep, deep) || word.Same(deep, other) {
		t.Error("words of 65536 parts within one another")
	}
}

// P5.3: Same of words of all kinds.
func TestSameWords(t *testing.T) {
	w := writer{3}
	a := w.word(3)
	for range 50000 {
		b := w.word(3)
		if word.Same(a, b) != sameOracle(a, b) || !word.Same(b, b) {
			t.Fatalf("%s and %s", shown(a), shown(b))
		}
		a = b
	}
}

// P5.3: the bytes of Lits, quoted or not, and words that have another part.
func TestLiteral(t *testing.T) {
	long := strings.Repeat("a", 5000)
	for _, c := range []struct {
		w    api.Word
		text string
		is   bool
	}{
		{nil, "", true}, {api.Word{}, "", true}, {api.Word{l("a")}, "a", true}, {api.Word{q("a b")}, "a b", true}, {api.Word{l("")}, "", true}, {api.Word{q("")}, "", true},
		{api.Word{l("a"), q("b"), l("c"), l("d")}, "abcd", true}, {api.Word{l("\x00$"), q("\xff`")}, "\x00$\xff`", true}, {api.Word{l(long), q(long)}, long + long, true},
		{api.Word{v("x", 0)}, "", false}, {api.Word{r("a")}, "", false}, {api.Word{s("1")}, "", false}, {api.Word{{}}, "", false}, {api.Word{{Kind: 9, Text: "a"}}, "", false}, {api.Word{{Kind: -1}}, "", false},
		{api.Word{l("a"), v("x", 0)}, "", false}, {api.Word{v("x", 0), l("a")}, "", false}, {api.Word{l("a"), q("b"), s("1"), l("c")}, "", false}, {api.Word{q("a"), quoted(v("x", api.Default, l("b")))}, "", false},
		{api.Word{{Kind: api.Lit, Text: "a", Word: api.Word{v("x", 0)}}}, "a", true},
	} {
		if text, is := word.Literal(c.w); text != c.text || is != c.is {
			t.Errorf("Literal(%.80s): %.80q, %v; want %.80q, %v", shown(c.w), text, is, c.text, c.is)
		}
	}
}

// R2: what is handed in is not written into, nor is what stands behind its length.
func TestWordsStay(t *testing.T) {
	back := api.Word{l("a"), quoted(v("x", api.Default, q("b"), q("c"))), l("z"), l("z")}
	back[1].Word = back[1].Word[:1]
	want := shown(back) + shown(back[1].Word[:2])
	for range 2 {
		_, _ = word.Print(back[:2])
		_, _ = word.PrintHere(back[1:2])
		_, _ = word.Literal(back[:1])
		word.Same(back[:2], back[:2])
	}
	if got := shown(back) + shown(back[1].Word[:2]); got != want {
		t.Errorf("%s; want %s", got, want)
	}
}

// P5.4: what has 37 double quotes, braces and brackets within one another, of 300 bytes, can be printed.
func TestDeepCanBePrinted(t *testing.T) {
	opens := []struct{ open, end string }{
		{"${x-", "}"}, {"${x#", "}"}, {"${x:+a", "}"}, {`"${x-`, `}"`}, {`"${x%`, `}"`}, {"$(", ")"}, {"$((", "))"},
	}
	inner := []string{"", "a", "$y", `\*`, `"$y"`, `"\*"`, `""`, "'a'", "$", "$((1))", `"${y}"`, `\"`, `\}`, "'"}
	w := writer{4}
	for n := range 60000 {
		ahead, behind := "", ""
		for {
			o := opens[w.pick(len(opens))]
			if n < 1400 {
				o = opens[n%7]
			}
			marks := strings.Count(ahead+behind+o.open+o.end, `"`) + strings.Count(ahead+o.open, "{") + strings.Count(ahead+o.open, "(")
			if marks > 35 || len(ahead+behind+o.open+o.end) > 290 {
				break
			}
			ahead, behind = ahead+o.open, o.end+behind
			if w.pick(40) == 0 && n > 1400 {
				break
			}
		}
		hold(t, ahead+inner[n%len(inner)]+behind)
	}
	hold(t, strings.Repeat("${x-", 37)+"$y"+strings.Repeat("}", 37))
	hold(t, `"`+strings.Repeat("${x%", 35)+`$y\*`+strings.Repeat("}", 35)+`"`)
	for _, thing := range []string{`\'a`, `\a`, "$1", "$y", `\'$1`, `'a'b`, "$", `a\`, "''"} {
		hold(t, strings.Repeat(thing, 300/len(thing)))
		hold(t, `"`+strings.Repeat(thing, 298/len(thing))+`"`)
		hold(t, `"${x%`+strings.Repeat(thing, 293/len(thing))+`}"`)
	}
}
