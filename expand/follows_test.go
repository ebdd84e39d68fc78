package expand_test

import (
	"testing"

	"conch/api"
	"conch/expand"
	"conch/vars"
)

// strange is values with all that could part or turn them.
func strange() []string {
	var every [256]byte
	for c := range every {
		every[c] = byte(c)
	}
	return []string{"", " ", "a", "a b", "\n", "a\n\n", "\t \n", "*", "[a]", "$x", "'a'", "\"", "\\", "a:b,c", "é☃", "\xff", "\x00", string(every[:])}
}

// wantWhole wants one field of a text, all of it quoted.
func wantWhole(t *testing.T, r expand.Result, e api.Errno, texts ...string) {
	t.Helper()
	if e != api.OK || len(r.Fields) != len(texts) {
		t.Errorf("%d fields, %v, want %q", len(r.Fields), e, texts)
		return
	}
	for i, f := range r.Fields {
		if f.Text != texts[i] || len(f.Quoted) != len(f.Text) {
			t.Errorf("field %d is %q with %d bools, want %q", i, f.Text, len(f.Quoted), texts[i])
		}
		for at, q := range f.Quoted {
			if !q {
				t.Errorf("byte %d of %q is not quoted", at, f.Text)
			}
		}
	}
}

// P10.3: a quoted variable that is set is one field, its value, all of it quoted, whatever IFS is.
func TestQuotedVariable(t *testing.T) {
	for _, value := range strange() {
		for _, ifs := range append(strange(), "-", " \t\n") {
			v := vars.New("sh", value)
			v.Set("IFS", ifs)
			v.Set("x", value)
			for _, p := range []api.Part{plain("x"), op("x", api.Default, lit("p")), op("x", api.Assign, lit("p")), op("x", api.Fail, lit("p")), plain("1"), plain("@"), plain("*")} {
				r, e := expand.Expand(v, []api.Word{{quote(p)}})
				wantWhole(t, r, e, value)
				r, e = expand.One(v, api.Word{quote(p)})
				wantWhole(t, r, e, value)
			}
		}
	}
}

// P10.3: `"$@"` is just the arguments.
func TestQuotedArguments(t *testing.T) {
	all := strange()
	for n := range len(all) + 1 {
		for _, ifs := range all {
			v := vars.New("sh", all[:n]...)
			v.Set("IFS", ifs)
			r, e := expand.Expand(v, []api.Word{{quote(plain("@"))}})
			wantWhole(t, r, e, all[:n]...)
		}
	}
}

// P10.3: a quoted Run that has an answer is one field, too.
func TestQuotedRun(t *testing.T) {
	for _, value := range strange() {
		for _, ifs := range strange() {
			v := vars.New("sh")
			v.Set("IFS", ifs)
			r, e := expand.Expand(v, []api.Word{{quote(run("f"))}}, value+"z\n\n")
			wantWhole(t, r, e, value+"z")
		}
	}
}

// P10.3: v stays as it is, whatever is done, and however it ends.
func TestStays(t *testing.T) {
	v := kept()
	v.Export("x")
	before := v.Copy()
	for _, text := range []string{"${z=1}", "${e:=1}", "$((n=1))", "$((n=m=1))", "${IFS=,}$x", "${x#${k=2}}", "${y?${k=1}}", "${k=1}$(f)", "${k=1}$((1/0))", "$(($((k=1))+1))"} {
		w := parsed(t, text)
		expand.Expand(v, w)
		expand.One(v, w[0])
		wantSame(t, v, before)
	}
}

// P10.3: of Runs the first one that has no answer is wanted.
func TestFirstRun(t *testing.T) {
	scripts := []string{"a", "b", "c", "d", "e", "f"}
	var words []api.Word
	for i, s := range scripts {
		p := run(s)
		switch i % 3 {
		case 1:
			p = op("y", api.Default, p)
		case 2:
			p = quote(op("x", api.Instead, lit("-"), p))
		}
		words = append(words, api.Word{lit("p"), p})
	}
	for i, s := range scripts {
		wantEnd(t, shell(), words, scripts[:i], expand.Result{Wants: true, Need: s, Used: i}, api.OK)
	}
	var whole api.Word
	for _, w := range words {
		whole = append(whole, w...)
	}
	for i, s := range scripts {
		wantEnd(t, shell(), []api.Word{whole}, scripts[:i], expand.Result{Wants: true, Need: s, Used: i}, api.OK)
	}
}
