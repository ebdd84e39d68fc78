package expand_test

import (
	"slices"
	"strconv"
	"strings"
	"testing"

	"conch/api"
	"conch/expand"
	"conch/vars"
)

// nested is a word within words, deep of them, around one that is innermost.
func nested(deep int, inner api.Part, around func(api.Part) api.Part) api.Word {
	p := inner
	for range deep {
		p = around(p)
	}
	return api.Word{p}
}

// R1: words deep within one another are expanded.
func TestDeep(t *testing.T) {
	const deep = 1<<16 - 2
	for _, c := range []struct {
		around func(api.Part) api.Part
		want   string
	}{
		{func(p api.Part) api.Part { return op("y", api.Default, p) }, "p|q|"},
		{func(p api.Part) api.Part { return quote(op("y", api.Default, p)) }, "p q|"},
		{func(p api.Part) api.Part { return quote(op("x", api.Instead, p)) }, "p q|"},
		{func(p api.Part) api.Part { return op("y", api.Assign, p) }, "p|q|"},
		{func(p api.Part) api.Part { return quote(op("n", api.Front, p)) }, "|"}, // 5 without what fits nothing is 5, and without that nothing
	} {
		wantFields(t, shell(), nested(deep, lit("p q"), c.around), c.want)
	}
	fail := func(p api.Part) api.Part { return op("y", api.Fail, p) }
	wantEnd(t, shell(), []api.Word{nested(deep, run("f"), fail)}, nil, expand.Result{Wants: true, Need: "f"}, api.OK)
	wantEnd(t, shell(), []api.Word{nested(deep, lit("p"), fail)}, nil, expand.Result{Message: "p"}, api.ErrSet)
}

// R1: Sums within one another go as deep as a text may.
func TestDeepSums(t *testing.T) {
	s := "n"
	for range 12 {
		s = "$((" + s + "+1))"
	}
	wantTexts(t, shell(), "17|", s)
	wantEnd(t, shell(), []api.Word{{sum(strings.Repeat("$((", 500) + "1" + strings.Repeat("))", 500))}}, nil, expand.Result{}, api.ErrBig)
}

// P10.1: many words, arguments, answers and bytes.
func TestMany(t *testing.T) {
	const many = 100000
	args := make([]string, many)
	var want strings.Builder
	for i := range args {
		args[i] = strconv.Itoa(i)
		want.WriteString("'" + args[i] + "'|")
	}
	v := vars.New("sh", args...)
	wantTexts(t, v, want.String(), `"$@"`)
	wantTexts(t, v, strings.ReplaceAll(want.String(), "'", ""), `$*`)
	wantTexts(t, v, "100000|", `${#@}`)
	wantTexts(t, v, "99999|", "$((${#}-1))")

	words := slices.Repeat([]api.Word{{quote(run("f"))}}, many)
	wantAll(t, vars.New("sh"), words, args, many, want.String())
	wantEnd(t, vars.New("sh"), words, args[:many-1], expand.Result{Wants: true, Need: "f", Used: many - 1}, api.OK)

	big := strings.Repeat("a b\n", many)
	wantAll(t, vars.New("sh"), []api.Word{{run("f")}}, []string{big + "\n\n"}, 1, strings.Repeat("a|b|", many))
	wantAll(t, vars.New("sh"), []api.Word{{quote(run("f"))}}, []string{strings.Repeat("\n", many)}, 1, "|")
	v = vars.New("sh")
	v.Set("x", big)
	wantTexts(t, v, strconv.Itoa(4*many)+"|", "${#x}")
	wantTexts(t, v, "b|"+strings.Repeat("a|b|", many-1), "${x#*a}")
}
