package expand_test

import (
	"reflect"
	"slices"
	"testing"

	"conch/api"
	"conch/expand"
	"conch/split"
	"conch/vars"
)

// wantSame holds all that can be asked of variables against that of others.
func wantSame(t *testing.T, got, want *vars.Vars) {
	t.Helper()
	zero, _ := got.Param("0")
	name, _ := want.Param("0")
	if !slices.Equal(got.All(), want.All()) || !slices.Equal(got.Args(), want.Args()) || got.Status() != want.Status() || zero != name {
		t.Errorf("the variables are %+v %q %d %q, want %+v %q %d %q", got.All(), got.Args(), got.Status(), zero, want.All(), want.Args(), want.Status(), name)
	}
}

// busy makes words that do a bit of all, with others behind each length, and answers to them; and says what comes of them.
func busy() (words []api.Word, answers []string, want string) {
	inner := api.Word{lit("p q"), quote(plain("n")), lit("behind")}[:2]
	w := api.Word{op("y", api.Default, inner...), lit("-"), quote(plain("@")), run("f"), sum("m=n+1"), lit("behind")}[:5]
	words = []api.Word{w, {op("z", api.Assign, inner...)}, {quote(op("x", api.Front, inner...))}, {lit("behind")}}[:3]
	return words, []string{"r s\n", "t", "behind"}[:2], "p|q'5'-'1'|'2 3'r|s6|p|q5|'a b'|"
}

// R2: words and answers stay as they are, also behind their lengths.
func TestHandedIn(t *testing.T) {
	words, answers, want := busy()
	wantAll(t, shell(), words, answers, 1, want)
	for _, w := range words {
		expand.One(shell(), w, answers...)
	}
	other, texts, _ := busy()
	deep := func(l []api.Word) []any {
		var out []any
		for _, w := range l[:cap(l)] {
			for _, p := range w[:cap(w)] {
				out = append(out, p, p.Word[:cap(p.Word)])
			}
		}
		return out
	}
	if !reflect.DeepEqual(deep(words), deep(other)) || !slices.Equal(answers[:3], texts[:3]) {
		t.Errorf("what was handed in is %v, %q", deep(words), answers[:3])
	}
}

// R2: what is written into words and answers afterwards turns no answer.
func TestWriteIntoWords(t *testing.T) {
	words, answers, want := busy()
	r, _ := expand.Expand(shell(), words, answers...)
	one, _ := expand.One(shell(), words[0], answers...)
	for _, w := range words {
		for i := range w {
			for k := range w[i].Word {
				w[i].Word[k] = lit("turned")
			}
			w[i] = lit("turned")
		}
	}
	answers[0] = "turned"
	if got := shown(r.Fields...); got != want {
		t.Errorf("the fields are %q, want %q", got, want)
	}
	if got := shown(one.Fields...); got != "p q'5'-'1' '2 3'r s6|" {
		t.Errorf("the field is %q", got)
	}
	wantSet(t, r.Vars, "z", "p q5")
}

// R2: Vars may be written into without turning v, nor other answers; and v without turning Vars.
func TestWriteIntoVars(t *testing.T) {
	v := kept()
	before := v.Copy()
	words, answers, _ := busy()
	a, _ := expand.Expand(v, words, answers...)
	b, _ := expand.Expand(v, words, answers...)
	c, _ := expand.One(v, nil)
	wantSame(t, c.Vars, before)
	then := a.Vars.Copy()
	for i, x := range []*vars.Vars{a.Vars, c.Vars} {
		x.Set("x", "turned")
		x.Set("new", "turned")
		x.Unset("n")
		x.Export("e")
		x.Readonly("z")
		x.SetArgs("turned")
		x.SetStatus(100 + i)
		wantSame(t, v, before)
		wantSame(t, b.Vars, then)
	}
	v.Set("x", "other")
	v.SetArgs()
	v.SetStatus(1)
	wantSame(t, b.Vars, then)
	wantSet(t, b.Vars, "m", "6")
	wantSet(t, b.Vars, "z", "p q5")
}

// R2: what is written into one field, and behind it, turns no other one.
func TestWriteIntoFields(t *testing.T) {
	words, answers, want := busy()
	v := shell()
	a, _ := expand.Expand(v, words, answers...)
	b, _ := expand.Expand(v, words, answers...)
	for i, f := range a.Fields {
		rest := shown(a.Fields[i+1:]...)
		l := append(f.Quoted, true, true, true)
		l = l[:cap(l)]
		for k := range l {
			l[k] = !l[k]
		}
		l = f.Quoted[:cap(f.Quoted)]
		for k := range l {
			l[k] = !l[k]
		}
		if got := shown(a.Fields[i+1:]...); got != rest {
			t.Errorf("behind field %d are %q, want %q", i, got, rest)
		}
	}
	l := a.Fields[:cap(a.Fields)]
	for i := range l {
		l[i] = split.Field{Text: "turned"}
	}
	if got := shown(b.Fields...); got != want {
		t.Errorf("the fields are %q, want %q", got, want)
	}
	wantAll(t, v, words, answers, 1, want)
}

// R3: a call answers as it did, whatever was called between, and of a copy as of what it is a copy of.
func TestAgain(t *testing.T) {
	words, answers, want := busy()
	v := kept()
	for range 3 {
		wantAll(t, v, words, answers, 1, want)
		wantAll(t, v.Copy(), words, answers, 1, want)
		for _, a := range endings() {
			wantEnd(t, v, []api.Word{{op("k", api.Assign, lit("2")), a.part}}, nil, a.want, a.wrong)
		}
		wantAll(t, v, words, append(answers, "more"), 1, want)
	}
	after, _ := expand.Expand(v, words, answers...)
	wantAll(t, after.Vars, parsed(t, "$z$m", "${z=w}"), nil, 0, "p|q56|p|q5|")
}
