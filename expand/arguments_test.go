package expand_test

import (
	"testing"

	"conch/api"
	"conch/vars"
)

// called is a shell with these arguments, and with IFS set, if there is any.
func called(ifs []string, args ...string) *vars.Vars {
	v := vars.New("sh", args...)
	for _, s := range ifs {
		v.Set("IFS", s)
	}
	return v
}

// P10.1: `@` and `*`, quoted and not, with no arguments, one and several, and each kind of IFS.
func TestArguments(t *testing.T) {
	none, empty, one, several, blankLast := []string(nil), []string{""}, []string{":"}, []string{":- "}, []string{"- "}
	for _, c := range []struct {
		ifs                          []string
		args                         []string
		at, star, atQuote, starQuote string
	}{
		{none, nil, "", "", "", "|"},
		{none, []string{""}, "", "", "|", "|"},
		{none, []string{"a b"}, "a|b|", "a|b|", "'a b'|", "'a b'|"},
		{none, []string{"a", "b  c", "d:e"}, "a|b|c|d:e|", "a|b|c|d:e|", "'a'|'b  c'|'d:e'|", "'a b  c d:e'|"},
		{none, []string{"", "a", ""}, "a|", "a|", "|'a'||", "' a '|"},
		{none, []string{" a ", " "}, "a|", "a|", "' a '|' '|", "' a   '|"},
		{empty, nil, "", "", "", "|"},
		{empty, []string{"a b"}, "a b|", "a b|", "'a b'|", "'a b'|"},
		{empty, []string{"a", "", " ", "b:c"}, "a| |b:c|", "a| |b:c|", "'a'||' '|'b:c'|", "'a b:c'|"},
		{one, nil, "", "", "", "|"},
		{one, []string{"a b:c"}, "a b|c|", "a b|c|", "'a b:c'|", "'a b:c'|"},
		{one, []string{"a:", ":b", "c"}, "a||b|c|", "a||b|c|", "'a:'|':b'|'c'|", "'a:::b:c'|"},
		{several, []string{"a", "b-c d"}, "a|b|c|d|", "a|b|c|d|", "'a'|'b-c d'|", "'a:b-c d'|"},
		{blankLast, []string{"a", "b c", ""}, "a|b|c|", "a|b|c|", "'a'|'b c'||", "'a-b c-'|"},
	} {
		v := called(c.ifs, c.args...)
		wantTexts(t, v, c.at, "$@")
		wantTexts(t, v, c.at, "${@}")
		wantTexts(t, v, c.star, "$*")
		wantTexts(t, v, c.atQuote, `"$@"`)
		wantTexts(t, v, c.starQuote, `"$*"`)
	}
}

// P10.1: what stands around the arguments goes to the first one and to the last one.
func TestAround(t *testing.T) {
	v := called(nil, "1", "2 3")
	for text, want := range map[string]string{
		"a$@b": "a1|2|3b|", `"a$@b"`: "'a1'|'2 3b'|", `a"$@"b`: "a'1'|'2 3'b|", "a$*b": "a1|2|3b|", `"a$*b"`: "'a1 2 3b'|",
		`"$@$@"`: "'1'|'2 31'|'2 3'|", `$@"$@"`: "1|2|3'1'|'2 3'|", `"$@""$*"`: "'1'|'2 31 2 3'|", `"$@"''`: "'1'|'2 3'|",
	} {
		wantTexts(t, v, want, text)
	}
	none := called(nil)
	for text, want := range map[string]string{
		"a$@b": "ab|", `"a$@b"`: "'ab'|", `a"$@"b`: "ab|", "$@": "", `"$@"`: "", `"$@$@"`: "", `"$@"''`: "|", `"$@""$*"`: "|", "a$*b": "ab|", `"a$*b"`: "'ab'|", `$@$*`: "", `"$@"$y`: "",
	} {
		wantTexts(t, none, want, text)
	}
}

// P10.1: of a `*` that is quoted only the first byte of IFS stands between, a byte and no rune.
func TestBetween(t *testing.T) {
	for ifs, want := range map[string]string{
		"": "'abc'|", ",": "'a,b,c'|", ", ": "'a,b,c'|", " ,": "'a b c'|", "\n": "'a\nb\nc'|", "é": "'a\xc3b\xc3c'|", "\xff\xfe": "'a\xffb\xffc'|", "\x00": "'a\x00b\x00c'|", "ab": "'aabac'|",
	} {
		wantTexts(t, called([]string{ifs}, "a", "b", "c"), want, `"$*"`)
	}
	// IFS that is there but not set is as one that isn't there.
	v := called(nil, "a", "b")
	v.Export("IFS")
	wantTexts(t, v, "'a b'|", `"$*"`)
	wantTexts(t, v, "a|b|", "$@")
	// In One all borders are blanks, whatever IFS is.
	v.Set("IFS", ",")
	for text, want := range map[string]string{"$@": "a b|", "$*": "a b|", `"$@"`: "'a' 'b'|", `"$*"`: "'a,b'|", `x"$@"y`: "x'a' 'b'y|"} {
		wantOne(t, v, parsed(t, text)[0], want)
	}
}

// P10.1: each Op of `@` and `*`, with arguments and without.
func TestOpsOfArguments(t *testing.T) {
	v := called([]string{"-"}, "aba", "b", "", "aab")
	for text, want := range map[string]string{
		"${@#a}": "ba|b|ab|", `"${@#a}"`: "'ba'|'b'||'ab'|", "${*#a}": "ba|b|ab|", `"${*#a}"`: "'ba-b--ab'|",
		"${@##*a}": "b|b|", `"${@##*a}"`: "|'b'||'b'|", `"${*##*a}"`: "'-b--b'|", "${@%a*}": "ab|b|a|", `"${@%a*}"`: "'ab'|'b'||'a'|", `"${*%%a*}"`: "'-b--'|",
		`"${@%%"a*"}"`: "'aba'|'b'||'aab'|", `"${@#z}"`: "'aba'|'b'||'aab'|", `"${@#}"`: "'aba'|'b'||'aab'|",
		"${@-z}": "aba|b|aab|", `"${@:-z}"`: "'aba'|'b'||'aab'|", `"${*=z}"`: "'aba-b--aab'|", `"${@?z}"`: "'aba'|'b'||'aab'|", "${@+z y}": "z y|", `"${*:+z}"`: "'z'|",
		"${#@}": "4|", `"${#*}"`: "'4'|",
	} {
		wantTexts(t, v, want, text)
	}
	none := called(nil)
	for text, want := range map[string]string{
		"${@#a}": "", `"${@#a}"`: "", "${*#a}": "", `"${*#a}"`: "|", `"${@%%*}"`: "", "${@-p q}": "p|q|", `"${@-p q}"`: "'p q'|", `"${*:-p}"`: "'p'|", `"${@-}"`: "|", "${@+z}": "", `"${@+z}"`: "|", "${#@}": "0|", "${#}": "0|",
	} {
		wantTexts(t, none, want, text)
	}
	// One argument without bytes is set, but does not count with Colon; two count by the blank between them.
	blank := called(nil, "")
	for text, want := range map[string]string{"${@-z}": "", `"${@-z}"`: "|", "${@:-z}": "z|", `"${*:+z}"`: "|", "${*+z}": "z|"} {
		wantTexts(t, blank, want, text)
	}
	two := called([]string{""}, "", "")
	for text, want := range map[string]string{`"${@:-z}"`: "||", `"${*:-z}"`: "|", "${*:+z}": "z|"} {
		wantTexts(t, two, want, text)
	}
}

// P10.1: IFS that the word itself sets parts all of it; what it gave of `*` ahead of that stays.
func TestIfsOfWord(t *testing.T) {
	v := vars.New("sh", "p", "q")
	v.Set("x", "a,b c")
	after := wantAll(t, v, parsed(t, "$x${IFS=,}", "$x"), nil, 0, "a|b c|a|b c|")
	wantSet(t, after, "IFS", ",")
	wantUnset(t, v, "IFS")
	wantTexts(t, v, "|a|", "${IFS=,}a")
	wantTexts(t, v, "'p q'|p|q'p,q'|", `"$*"${IFS=,}$*"$*"`)
	wantTexts(t, v, "a,b c|", "$x${IFS=}")
	wantTexts(t, v, "a,b|c||a|b c|", "$x", "${IFS+y}", "${IFS=,}", "$x")
	wantAll(t, v, []api.Word{{run("f"), op("IFS", api.Assign, lit("b"))}}, []string{"abc"}, 1, "a|c|")
	wantAll(t, called(nil, "1", "2"), []api.Word{{quote(op("*", api.Front, op("IFS", api.Assign, lit(","))))}}, nil, 0, "'1,2'|")
}

// P10.1: what is set in one word is read in the next, and not in one ahead of it.
func TestOneBehindTheOther(t *testing.T) {
	after := wantAll(t, shell(), parsed(t, "$z", "${z=q}", "$z", "$((z2=n+1))", "$z2", "${z2#6}", "${z2:+$z}"), nil, 0, "q|q|6|6|q|")
	wantSet(t, after, "z", "q")
	wantSet(t, after, "z2", "6")
}
