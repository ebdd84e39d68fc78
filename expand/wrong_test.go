package expand_test

import (
	"strings"
	"testing"

	"conch/api"
	"conch/expand"
	"conch/vars"
)

// ending is a part with which an expansion ends ahead of time.
type ending struct {
	part  api.Part
	want  expand.Result
	wrong api.Errno
}

// endings is one part of each end.
func endings() []ending {
	return []ending{
		{run("f"), expand.Result{Wants: true, Need: "f"}, api.OK},
		{quote(run("g")), expand.Result{Wants: true, Need: "g"}, api.OK},
		{op("y", api.Fail, lit("no")), expand.Result{Message: "no"}, api.ErrSet},
		{colon("e", api.Fail), expand.Result{}, api.ErrSet},
		{op("x", 10), expand.Result{}, api.ErrArg},
		{op("3", api.Assign, lit("a")), expand.Result{}, api.ErrName},
		{op("r", api.Assign, lit("a")), expand.Result{}, api.ErrRead},
		{sum("r=1"), expand.Result{}, api.ErrRead},
		{sum("1/0"), expand.Result{}, api.ErrDiv},
		{sum("1+"), expand.Result{}, api.ErrSyntax},
		{sum("${x"), expand.Result{}, api.ErrQuote},
		{sum(strings.Repeat(" ", 4097)), expand.Result{}, api.ErrBig},
	}
}

// kept is a shell whose r may only be read, and is not set.
func kept() *vars.Vars {
	v := shell()
	v.Readonly("r")
	return v
}

// P10.1: of several things that go wrong, or are wanted, the first one is told, and nothing else.
func TestFirst(t *testing.T) {
	for _, a := range endings() {
		for _, b := range endings() {
			wantEnd(t, kept(), []api.Word{{a.part, b.part}}, nil, a.want, a.wrong)
			wantEnd(t, kept(), []api.Word{{lit("p")}, {plain("x"), a.part}, {b.part}}, nil, a.want, a.wrong)
			for _, o := range []int{api.Default, api.Assign, api.Fail, api.Front, api.Fronts, api.Back, api.Backs} {
				wantEnd(t, kept(), []api.Word{{op("y", o, a.part, b.part), b.part}}, nil, a.want, a.wrong)
				wantEnd(t, kept(), []api.Word{{quote(op("y", o, lit("p"), quote(op("y", api.Default, a.part)))), b.part}}, nil, a.want, a.wrong)
			}
			wantEnd(t, kept(), []api.Word{{op("x", api.Instead, a.part), b.part}}, nil, a.want, a.wrong)
		}
	}
}

// P10.1: what is ahead of an end is lost: fields, what was set, answers that were taken (but for what is wanted).
func TestNothingElse(t *testing.T) {
	for _, a := range endings() {
		want := a.want
		if want.Wants {
			want.Used = 2
		}
		v := kept()
		wantEnd(t, v, []api.Word{{lit("p"), op("z", api.Assign, lit("q"))}, {run("h"), sum("m=1"), run("i"), a.part}}, []string{"a", "b"}, want, a.wrong)
		wantEnd(t, v, []api.Word{{op("z", api.Assign, lit("q")), run("h"), sum("m=1"), run("i"), a.part}}, []string{"a", "b"}, want, a.wrong)
		wantUnset(t, v, "z")
		wantUnset(t, v, "m")
	}
}

// P10.1: what is passed over can't end an expansion.
func TestPassedOver(t *testing.T) {
	for _, a := range endings() {
		for _, p := range []api.Part{op("x", api.Default, a.part), op("x", api.Assign, a.part), op("x", api.Fail, a.part), op("x", api.Plain, a.part)} {
			wantFields(t, kept(), api.Word{p}, "a|b|")
		}
		wantFields(t, kept(), api.Word{op("y", api.Instead, a.part)}, "")
		wantFields(t, kept(), api.Word{op("x", api.Length, a.part)}, "3|")
		wantFields(t, kept(), api.Word{colon("x", api.Default, a.part), colon("e", api.Instead, a.part)}, "a|b|")
	}
}

// P10.1: with the answer that is wanted the expansion goes on to what is wanted next.
func TestAnswerByAnswer(t *testing.T) {
	words := parsed(t, "$(a)", `"$(b)${y-$(c)}"`, "$(($(d)+1))", "${z=$(e)}$z")
	answers := []string{"1\n", "2 2", "3\n\n", "4", "5 5\n"}
	needs := []string{"a", "b", "c", "d", "e"}
	for i := range answers {
		wantEnd(t, shell(), words, answers[:i], expand.Result{Wants: true, Need: needs[i], Used: i}, api.OK)
	}
	wantAll(t, shell(), words, answers, 5, "1|'2 23'|5|5|55|5|")
}
