package expand_test

import (
	"strings"
	"testing"

	"conch/api"
	"conch/expand"
)

// The document's examples.
func TestExamples(t *testing.T) {
	for text, want := range map[string]string{
		`$x`: "a|b|", `"$x"`: "'a b'|",
		`"$@"`: "'1'|'2 3'|", `"$*"`: "'1 2 3'|", `$*`: "1|2|3|",
		`${y-c d}`: "c|d|", `"${y-c d}"`: "'c d'|", `${y+e}`: "",
		`${x#a}`: "b|", `"${x%%?b}"`: "'a'|",
		`${#x}$((1+2))`: "33|",
	} {
		wantTexts(t, shell(), want, text)
	}
	wantAll(t, shell(), parsed(t, `"$(f)"`), []string{"q\n"}, 1, "'q'|")
	wantEnd(t, shell(), parsed(t, `"$(f)"`), nil, expand.Result{Wants: true, Need: "f"}, api.OK)
	wantEnd(t, shell(), parsed(t, `${y?no}`), nil, expand.Result{Message: "no"}, api.ErrSet)
}

// P10.1, P10.2: a nil v is ErrNil, whatever else there is.
func TestNil(t *testing.T) {
	wantEnd(t, nil, nil, nil, expand.Result{}, api.ErrNil)
	wantEnd(t, nil, parsed(t, "a"), []string{"b"}, expand.Result{}, api.ErrNil)
	wantEnd(t, nil, parsed(t, "$(f)"), nil, expand.Result{}, api.ErrNil)
	wantEnd(t, nil, parsed(t, "${y?no}"), nil, expand.Result{}, api.ErrNil)
	wantEnd(t, nil, []api.Word{{op("x", 99)}}, nil, expand.Result{}, api.ErrNil)
	wantEnd(t, nil, []api.Word{nil}, nil, expand.Result{}, api.ErrNil)
}

// P10.1, P10.2: without words there are no fields; a word without parts has none, but One makes one of it.
func TestEmpty(t *testing.T) {
	wantAll(t, shell(), nil, nil, 0, "")
	wantAll(t, shell(), []api.Word{}, []string{"a"}, 0, "")
	wantAll(t, shell(), []api.Word{nil, {}, nil}, nil, 0, "")
	wantAll(t, shell(), []api.Word{nil, {lit("a")}, {}}, nil, 0, "a|")
	wantOne(t, shell(), nil, "|")
	wantOne(t, shell(), api.Word{}, "|")
}

// P10.1: a Lit is bytes as they are, that are never parted.
func TestLit(t *testing.T) {
	v := with("IFS", " a:")
	wantFields(t, v, api.Word{lit("a b:c")}, "a b:c|")
	wantFields(t, v, api.Word{quote(lit("a b:c"))}, "'a b:c'|")
	wantFields(t, v, api.Word{lit("a "), quote(lit("b:")), lit(" c")}, "a 'b:' c|")
	wantFields(t, v, api.Word{lit("")}, "")
	wantFields(t, v, api.Word{quote(lit(""))}, "|")
	wantFields(t, v, api.Word{lit(""), quote(lit("")), lit("")}, "|")
	wantFields(t, v, api.Word{lit("$x\\*\n\x00\xff")}, "$x\\*\n\x00\xff|")
	wantOne(t, v, api.Word{lit("a "), quote(lit("b:")), lit(" c")}, "a 'b:' c|")
	// What else a Lit has is nothing to it.
	wantFields(t, v, api.Word{{Kind: api.Lit, Text: "a b", Op: api.Length, Colon: true, Word: api.Word{lit("c")}}}, "a b|")
	wantFields(t, v, api.Word{{Kind: api.Lit, Text: "a b", Op: 99}}, "a b|")
}

// P10.1: a Lit that is not quoted is parted in the Word of a Default or an Instead that is not quoted, and nowhere else.
func TestLitInWord(t *testing.T) {
	v := with("IFS", " ,")
	loose, held := lit("c d,e"), quote(lit("c d,e"))
	for _, o := range []struct {
		name string
		op   int
	}{{"y", api.Default}, {"x", api.Instead}} {
		wantFields(t, v, api.Word{op(o.name, o.op, loose)}, "c|d|e|")
		wantFields(t, v, api.Word{op(o.name, o.op, held)}, "'c d,e'|")
		wantFields(t, v, api.Word{quote(op(o.name, o.op, loose))}, "c d,e|")
		wantFields(t, v, api.Word{quote(op(o.name, o.op, held))}, "'c d,e'|")
		wantFields(t, v, api.Word{op(o.name, o.op, loose, held, loose)}, "c|d|e'c d,e'c|d|e|")
		wantFields(t, v, api.Word{lit("a b"), op(o.name, o.op, loose), lit("a b")}, "a bc|d|ea b|")
		// The innermost of them says it.
		for _, inner := range []struct {
			name string
			op   int
		}{{"y", api.Default}, {"n", api.Instead}} {
			wantFields(t, v, api.Word{quote(op(o.name, o.op, op(inner.name, inner.op, loose), loose))}, "c|d|ec d,e|")
			wantFields(t, v, api.Word{op(o.name, o.op, quote(op(inner.name, inner.op, loose)), loose)}, "c d,ec|d|e|")
		}
	}
	wantFields(t, v, api.Word{op("y", api.Assign, loose)}, "c|d|e|")
	wantFields(t, v, api.Word{op("y", api.Assign, held)}, "c|d|e|")
	wantFields(t, v, api.Word{quote(op("y", api.Assign, loose))}, "'c d,e'|")
	wantFields(t, with("x", "c d,e f"), api.Word{op("x", api.Front, loose)}, "f|")
	wantFields(t, with("x", "c d,e f"), api.Word{quote(op("x", api.Fronts, loose))}, "' f'|")
	wantFields(t, with("x", "f c d,e"), api.Word{op("x", api.Back, loose)}, "f|")
	wantFields(t, with("x", "f c d,e"), api.Word{quote(op("x", api.Backs, loose))}, "'f '|")
	wantEnd(t, v, []api.Word{{op("y", api.Fail, loose)}}, nil, expand.Result{Message: "c d,e"}, api.ErrSet)
}

// P10.1: a Run takes the next answer, without the bytes 10 at its end.
func TestRun(t *testing.T) {
	for _, o := range []struct{ answer, open, quoted string }{
		{"", "", "|"},
		{"\n", "", "|"},
		{"\n\n\n", "", "|"},
		{"a", "a|", "'a'|"},
		{"a\n", "a|", "'a'|"},
		{"a\n\n", "a|", "'a'|"},
		{"a b\nc\n\n", "a|b|c|", "'a b\nc'|"},
		{"\na", "a|", "'\na'|"},
		{" a ", "a|", "' a '|"},
		{"a \n \n", "a|", "'a \n '|"},
		{"a\r\n", "a\r|", "'a\r'|"},
		{"a\n\x00", "a|\x00|", "'a\n\x00'|"},
		{"$x *", "$x|*|", "'$x *'|"},
	} {
		wantAll(t, shell(), []api.Word{{run("f")}}, []string{o.answer}, 1, o.open)
		wantAll(t, shell(), []api.Word{{quote(run("f"))}}, []string{o.answer}, 1, o.quoted)
		r, e := expand.One(shell(), api.Word{run("f")}, o.answer)
		if want := strings.TrimRight(o.answer, "\n"); e != api.OK || len(r.Fields) != 1 || shown(r.Fields...) != want+"|" || r.Used != 1 {
			t.Errorf("One with the answer %q = %+v, %v", o.answer, r, e)
		}
	}
	wantAll(t, shell(), []api.Word{{lit("p"), run("f"), lit("q")}}, []string{"a b\n"}, 1, "pa|bq|")
	wantAll(t, shell(), []api.Word{{run("f"), run("g")}, {quote(run("h"))}}, []string{"a\n", "b\n", "c d\n"}, 3, "ab|'c d'|")
}

// P10.1: too many answers are left; how many were taken is told.
func TestUsed(t *testing.T) {
	wantAll(t, shell(), parsed(t, "$x"), []string{"p", "q"}, 0, "a|b|")
	wantAll(t, shell(), parsed(t, "$(f)"), []string{"p", "q", "r"}, 1, "p|")
	wantAll(t, shell(), parsed(t, "$(f)", "$(f)"), []string{"p", "q", "r"}, 2, "p|q|")
	wantAll(t, shell(), parsed(t, "$(f)", "$(f)$(f)"), []string{"p", "q", "r"}, 3, "p|qr|")
	r, e := expand.One(shell(), parsed(t, "$(f)$(f)")[0], "p", "q", "r")
	if e != api.OK || shown(r.Fields...) != "pq|" || r.Used != 2 {
		t.Errorf("One = %+v, %v", r, e)
	}
}

// P10.1, P10.3: of Runs the first one that has no answer is wanted, for its Text, and nothing else is told but how many were taken.
func TestWants(t *testing.T) {
	words := parsed(t, `$(a b)`, `c"$(d)"$((y=9))`, `${y-$(e)}${x-$(no)}`, `${z=$(g)}`, `${x#$(h)}`, `$(($(i)))`, `${q?$(j)}`)
	for i, need := range []string{"a b", "d", "", "g", "h", "i", "j"} {
		if need == "" {
			continue
		}
		answers := []string{"p", "q", "r", "s", "t", "1", "u"}
		taken := i
		if i > 2 {
			taken-- // y is set by then, so that e is not run
		}
		wantEnd(t, shell(), words, answers[:taken], expand.Result{Wants: true, Need: need, Used: taken}, api.OK)
	}
	for _, text := range []string{`$(f)`, `"$(f)"`, `${y-$(f)}`, `"${y-$(f)}"`, `${y=$(f)}`, `${y?$(f)}`, `${x+$(f)}`, `${x#$(f)}`, `${x##"$(f)"}`, `"${x%$(f)}"`, `${x%%a$(f)}`, `$((1+$(f)))`, `"$(($(f)))"`, `${3=$(f)}`, `${y-${z-$(f)}}`, `${y-$(($(f)))}`, `$((${y-$(f)}))`} {
		wantEnd(t, shell(), parsed(t, text), nil, expand.Result{Wants: true, Need: "f"}, api.OK)
		wantEnd(t, shell(), parsed(t, "$(g)"+text), []string{"p"}, expand.Result{Wants: true, Need: "f", Used: 1}, api.OK)
		wantEnd(t, shell(), parsed(t, "$x$((m=2))${p=q}", text, "${y?no}"), nil, expand.Result{Wants: true, Need: "f"}, api.OK)
	}
	wantEnd(t, shell(), []api.Word{{run("")}}, nil, expand.Result{Wants: true}, api.OK)
	wantEnd(t, shell(), []api.Word{{run("\x00'(")}}, nil, expand.Result{Wants: true, Need: "\x00'("}, api.OK)
	// A Word that is not asked for has nothing run.
	wantTexts(t, shell(), "a|b|", "${x-$(f)}")
	wantTexts(t, shell(), "a|b|", "${x=$(f)}")
	wantTexts(t, shell(), "a|b|", "${x?$(f)}")
	wantTexts(t, shell(), "", "${y+$(f)}")
	wantFields(t, shell(), api.Word{op("x", api.Plain, run("f")), op("x", api.Length, run("f"))}, "a|b3|")
}

// P10.1: answers within the Words of other parts are taken from left to right.
func TestAnswersWithin(t *testing.T) {
	words := parsed(t, `${y-$(a)}$(b)`, `"${x+$(c)}"`, `${z=$(d)}`, `${x#$(e)}`, `$(($(f)+$(g)))`, `$z`)
	wantAll(t, shell(), words, []string{"p q\n", "r\n", "s t\n", "u v\n", "a\n", "2\n", "3\n"}, 7, "p|qr|'s t'|u|v|b|5|u|v|")
	// Whether it is parted hangs on its own Quote, wherever it stands, but in what is one text.
	wantAll(t, shell(), []api.Word{{quote(op("y", api.Default, run("a")))}}, []string{"p q"}, 1, "p|q|")
	wantAll(t, shell(), []api.Word{{op("y", api.Default, quote(run("a")))}}, []string{"p q"}, 1, "'p q'|")
	wantAll(t, with("x", "a*b"), []api.Word{{op("x", api.Front, run("a"))}}, []string{"*b"}, 1, "")
	wantAll(t, with("x", "*bc"), []api.Word{{op("x", api.Front, quote(run("a")))}}, []string{"*b\n"}, 1, "c|")
}

// P10.1: a part of another Kind is nothing.
func TestOtherKinds(t *testing.T) {
	for _, k := range []int{0, -1, 5, 6, 1 << 40, -1 << 40} {
		p := api.Part{Kind: k, Text: "x", Quote: true, Op: 99, Colon: true, Word: api.Word{run("f")}}
		wantFields(t, shell(), api.Word{p}, "")
		wantFields(t, shell(), api.Word{lit("a"), p, lit("b")}, "ab|")
		wantFields(t, shell(), api.Word{op("y", api.Default, lit("a"), p)}, "a|")
		wantOne(t, shell(), api.Word{p}, "|")
	}
}
