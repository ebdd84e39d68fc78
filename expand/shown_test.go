package expand_test

import (
	"fmt"
	"reflect"
	"strings"
	"testing"

	"conch/api"
	"conch/expand"
	"conch/split"
	"conch/vars"
	"conch/word"
)

// shell is the variables of the document's examples, and a few besides: e is set and empty, y is not set.
func shell() *vars.Vars {
	v := vars.New("sh", "1", "2 3")
	v.Set("x", "a b")
	v.Set("e", "")
	v.Set("n", "5")
	v.SetStatus(7)
	return v
}

// with is shell with variables set: a name and a value each.
func with(pairs ...string) *vars.Vars {
	v := shell()
	for i := 0; i < len(pairs); i += 2 {
		v.Set(pairs[i], pairs[i+1])
	}
	return v
}

// lit is a Lit that is not quoted.
func lit(s string) api.Part { return api.Part{Kind: api.Lit, Text: s} }

// run is a Run that is not quoted.
func run(s string) api.Part { return api.Part{Kind: api.Run, Text: s} }

// sum is a Sum that is not quoted.
func sum(s string) api.Part { return api.Part{Kind: api.Sum, Text: s} }

// plain is a Var that is not quoted.
func plain(name string) api.Part { return api.Part{Kind: api.Var, Text: name} }

// op is a Var with an Op and a Word.
func op(name string, op int, w ...api.Part) api.Part {
	return api.Part{Kind: api.Var, Text: name, Op: op, Word: w}
}

// colon is a Var with an Op and a Word, that has Colon.
func colon(name string, o int, w ...api.Part) api.Part {
	p := op(name, o, w...)
	p.Colon = true
	return p
}

// quote is a part that is quoted; those within it stay as they are.
func quote(p api.Part) api.Part {
	p.Quote = true
	return p
}

// parsed is the words of texts.
func parsed(t *testing.T, texts ...string) []api.Word {
	t.Helper()
	var l []api.Word
	for _, s := range texts {
		w, e := word.Parse(s)
		if e != api.OK {
			t.Fatalf("Parse(%q) = %v", s, e)
		}
		l = append(l, w)
	}
	return l
}

// shown is fields in short: those of their bytes that are quoted within quotes, and a | behind each.
func shown(l ...split.Field) string {
	var out strings.Builder
	for _, f := range l {
		in := false
		for i := range len(f.Text) {
			if f.Quoted[i] != in {
				out.WriteByte('\'')
				in = !in
			}
			out.WriteByte(f.Text[i])
		}
		if in {
			out.WriteByte('\'')
		}
		out.WriteByte('|')
	}
	return out.String()
}

// told is words for a message, cut where they are long.
func told(words ...api.Word) string {
	s := fmt.Sprintf("%+v", words)
	return fmt.Sprintf("%q", s[:min(len(s), 600)])
}

// wantAll holds what Expand answers against fields in short, and how many answers it took.
func wantAll(t *testing.T, v *vars.Vars, words []api.Word, answers []string, used int, want string) *vars.Vars {
	t.Helper()
	r, e := expand.Expand(v, words, answers...)
	for _, f := range r.Fields {
		if len(f.Quoted) != len(f.Text) {
			t.Fatalf("Expand(%s) has a field of %d bytes and %d bools", told(words...), len(f.Text), len(f.Quoted))
		}
	}
	if got := shown(r.Fields...); e != api.OK || got != want || r.Used != used || r.Vars == nil || r.Wants || r.Need != "" || r.Message != "" {
		t.Errorf("Expand(%s, %.100q) = %.200q, %v, used %d, wants %v %q, message %q; want %.200q, used %d", told(words...), answers, got, e, r.Used, r.Wants, r.Need, r.Message, want, used)
	}
	return r.Vars
}

// wantFields holds what Expand answers of one word, that takes no answer, against fields in short.
func wantFields(t *testing.T, v *vars.Vars, w api.Word, want string) {
	t.Helper()
	wantAll(t, v, []api.Word{w}, nil, 0, want)
}

// wantTexts holds what Expand answers of words' texts against fields in short.
func wantTexts(t *testing.T, v *vars.Vars, want string, texts ...string) {
	t.Helper()
	wantAll(t, v, parsed(t, texts...), nil, 0, want)
}

// wantOne holds what One answers of a word, that takes no answer, against a field in short.
func wantOne(t *testing.T, v *vars.Vars, w api.Word, want string) {
	t.Helper()
	r, e := expand.One(v, w)
	if got := shown(r.Fields...); e != api.OK || got != want || r.Used != 0 || r.Vars == nil || r.Wants || r.Need != "" || r.Message != "" {
		t.Errorf("One(%s) = %.200q, %v, want %.200q", told(w), got, e, want)
	}
}

// wantEnd holds what Expand, and One of each word that is alone, answers against an end ahead of time.
func wantEnd(t *testing.T, v *vars.Vars, words []api.Word, answers []string, want expand.Result, wrong api.Errno) {
	t.Helper()
	r, e := expand.Expand(v, words, answers...)
	if !reflect.DeepEqual(r, want) || e != wrong {
		t.Errorf("Expand(%s, %.100q) = %+v, %v, want %+v, %v", told(words...), answers, r, e, want, wrong)
	}
	if len(words) != 1 {
		return
	}
	r, e = expand.One(v, words[0], answers...)
	if !reflect.DeepEqual(r, want) || e != wrong {
		t.Errorf("One(%s, %.100q) = %+v, %v, want %+v, %v", told(words[0]), answers, r, e, want, wrong)
	}
}

// wantWrong holds what is answered of words' texts against an error that says nothing besides.
func wantWrong(t *testing.T, v *vars.Vars, wrong api.Errno, texts ...string) {
	t.Helper()
	wantEnd(t, v, parsed(t, texts...), nil, expand.Result{}, wrong)
}

// wantSet holds a variable against a value.
func wantSet(t *testing.T, v *vars.Vars, name, value string) {
	t.Helper()
	if s, is := v.Get(name); s != value || !is {
		t.Errorf("%s is %q, %v, want %q", name, s, is, value)
	}
}

// wantUnset wants a variable not to be set.
func wantUnset(t *testing.T, v *vars.Vars, name string) {
	t.Helper()
	if s, is := v.Get(name); s != "" || is {
		t.Errorf("%s is %q, %v, want that it is not set", name, s, is)
	}
}
