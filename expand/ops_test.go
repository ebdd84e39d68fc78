package expand_test

import (
	"testing"

	"conch/api"
	"conch/expand"
	"conch/vars"
)

// wantBoth holds a Var that is not quoted, and the same one quoted, against fields in short.
func wantBoth(t *testing.T, v *vars.Vars, p api.Part, open, quoted string) {
	t.Helper()
	wantFields(t, v, api.Word{p}, open)
	wantFields(t, v, api.Word{quote(p)}, quoted)
}

// P10.1: Plain of each kind of parameter.
func TestPlain(t *testing.T) {
	for name, want := range map[string][2]string{
		"x": {"a|b|", "'a b'|"}, "e": {"", "|"}, "y": {"", "|"}, "n": {"5|", "'5'|"},
		"0": {"sh|", "'sh'|"}, "1": {"1|", "'1'|"}, "2": {"2|3|", "'2 3'|"}, "3": {"", "|"}, "#": {"2|", "'2'|"}, "?": {"7|", "'7'|"},
		"": {"", "|"}, "a b": {"", "|"}, "01": {"", "|"}, "-": {"", "|"}, "@@": {"", "|"}, "\xff": {"", "|"},
	} {
		wantBoth(t, shell(), plain(name), want[0], want[1])
		// Colon and a Word are nothing to it.
		wantBoth(t, shell(), colon(name, api.Plain, lit("c")), want[0], want[1])
	}
	wantTexts(t, shell(), "pa|bq|", "p${x}q")
	wantTexts(t, shell(), "p'a b'q|", `p"${x}"q`)
	wantTexts(t, shell(), "pq|", "p${y}q")
}

// P10.1: Length of each kind of parameter: bytes, or how many arguments.
func TestLength(t *testing.T) {
	v := with("u", "é\n")
	for name, want := range map[string]string{
		"x": "3", "e": "0", "y": "0", "n": "1", "u": "3", "0": "2", "1": "1", "2": "3", "3": "0", "#": "1", "?": "1", "@": "2", "*": "2", "": "0", "a b": "0",
	} {
		wantBoth(t, v, op(name, api.Length), want+"|", "'"+want+"'|")
		wantBoth(t, v, colon(name, api.Length, op("y", api.Fail)), want+"|", "'"+want+"'|")
	}
	none := vars.New("sh")
	wantBoth(t, none, op("@", api.Length), "0|", "'0'|")
	wantBoth(t, none, op("*", api.Length), "0|", "'0'|")
	wantBoth(t, none, op("#", api.Length), "1|", "'1'|")
	many := vars.New("sh", make([]string, 1050)...)
	many.Set("IFS", "0")
	wantBoth(t, many, op("@", api.Length), "1|5|", "'1050'|")
	wantBoth(t, many, op("#", api.Length), "4|", "'4'|")
}

// counted is parameters, and of each whether it counts without Colon, and with it.
var counted = []struct {
	name         string
	is, some     bool
	open, quoted string
}{
	{"x", true, true, "a|b|", "'a b'|"}, {"n", true, true, "5|", "'5'|"}, {"e", true, false, "", "|"}, {"y", false, false, "", "|"},
	{"0", true, true, "sh|", "'sh'|"}, {"1", true, true, "1|", "'1'|"}, {"2", true, true, "2|3|", "'2 3'|"}, {"3", false, false, "", "|"},
	{"#", true, true, "2|", "'2'|"}, {"?", true, true, "7|", "'7'|"}, {"@", true, true, "1|2|3|", "'1'|'2 3'|"}, {"*", true, true, "1|2|3|", "'1 2 3'|"},
	{"", false, false, "", "|"}, {"b c", false, false, "", "|"}, {"00", false, false, "", "|"},
}

// P10.1: Default gives what counts, and else its Word.
func TestDefault(t *testing.T) {
	for _, c := range counted {
		for _, p := range []api.Part{op(c.name, api.Default, lit("p q")), colon(c.name, api.Default, lit("p q"))} {
			if c.is && !p.Colon || c.some {
				wantBoth(t, shell(), p, c.open, c.quoted)
			} else {
				wantBoth(t, shell(), p, "p|q|", "p q|")
			}
		}
	}
	wantBoth(t, shell(), op("y", api.Default), "", "|")
	wantTexts(t, shell(), "", "${y-}")
	wantTexts(t, shell(), "|", `"${y-}"`)
	wantTexts(t, shell(), "'p  q'|r|", `${y-"p  q" r}`)
	wantTexts(t, shell(), "'p  q r'|", `"${y-"p  q" r}"`)
	wantTexts(t, shell(), "|", `${y-""}`)
	wantTexts(t, shell(), "a|b|", `${y:-$x}`)
	wantTexts(t, shell(), "'a b'|", `"${y:-$x}"`)
	wantTexts(t, shell(), "'1'|'2 3'|", `"${y-$@}"`)
	wantTexts(t, shell(), "p'1'|'2 3'q|", `p"${y-$@}"q`)
	wantTexts(t, shell(), "2|3|", "${3-${2}}")
}

// P10.1: Instead is its Word where a Default's isn't, and nothing else.
func TestInstead(t *testing.T) {
	for _, c := range counted {
		for _, p := range []api.Part{op(c.name, api.Instead, lit("p q")), colon(c.name, api.Instead, lit("p q"))} {
			if c.is && !p.Colon || c.some {
				wantBoth(t, shell(), p, "p|q|", "p q|")
			} else {
				wantBoth(t, shell(), p, "", "|")
			}
		}
	}
	wantBoth(t, shell(), op("x", api.Instead), "", "|")
	wantTexts(t, shell(), "5|", "${x:+$n}")
	wantTexts(t, shell(), "pq|", "p${y+$n}q")
	// The Word that is passed over does nothing.
	after := wantAll(t, shell(), parsed(t, "${y+${z=1}}${x-${z=1}}"), nil, 0, "a|b|")
	wantUnset(t, after, "z")
}

// P10.1: Assign gives what counts, and else sets it to its Word, which it gives then as one text.
func TestAssign(t *testing.T) {
	for _, c := range counted {
		for _, p := range []api.Part{op(c.name, api.Assign, lit("p q")), colon(c.name, api.Assign, lit("p q"))} {
			switch {
			case c.is && !p.Colon || c.some:
				wantBoth(t, shell(), p, c.open, c.quoted)
			case c.name == "y" || c.name == "e":
				wantBoth(t, shell(), p, "p|q|", "'p q'|")
				after := wantAll(t, shell(), []api.Word{{quote(p)}}, nil, 0, "'p q'|")
				wantSet(t, after, c.name, "p q")
			default:
				wantEnd(t, shell(), []api.Word{{p}}, nil, expand.Result{}, api.ErrName)
				wantEnd(t, shell(), []api.Word{{quote(p)}}, nil, expand.Result{}, api.ErrName)
			}
		}
	}
	after := wantAll(t, shell(), parsed(t, `${z="p  q"$n}`, `"$z"`, `${z=r}`), nil, 0, "p|q5|'p  q5'|p|q5|")
	wantSet(t, after, "z", "p  q5")
	after = wantAll(t, shell(), parsed(t, `${z=$@}`, `"$z"`), nil, 0, "1|2|3|'1 2 3'|")
	wantSet(t, after, "z", "1 2 3")
	after = wantAll(t, shell(), []api.Word{{op("z", api.Assign)}, {quote(plain("z"))}}, nil, 0, "|")
	wantSet(t, after, "z", "")
	// No arguments can't be set, and one that may only be read neither.
	none := vars.New("sh")
	wantWrong(t, none, api.ErrName, "${@=a}")
	wantWrong(t, none, api.ErrName, `"${*:=a}"`)
	wantWrong(t, none, api.ErrName, "${1=}")
	v := shell()
	v.Readonly("y")
	v.Readonly("e")
	wantWrong(t, v, api.ErrRead, "${y=a}")
	wantWrong(t, v, api.ErrRead, "${e:=a}")
	wantTexts(t, v, "", "${e=a}")
	// Its Word is expanded ahead of that.
	wantEnd(t, v, parsed(t, "${y=${q?no}}"), nil, expand.Result{Message: "no"}, api.ErrSet)
	wantWrong(t, v, api.ErrDiv, "${3=$((1/0))}")
}

// P10.1: Fail gives what counts, and else is ErrSet, with its Word as Message and nothing else.
func TestFail(t *testing.T) {
	for _, c := range counted {
		for _, p := range []api.Part{op(c.name, api.Fail, lit("p q")), colon(c.name, api.Fail, lit("p q"))} {
			if c.is && !p.Colon || c.some {
				wantBoth(t, shell(), p, c.open, c.quoted)
				continue
			}
			wantEnd(t, shell(), []api.Word{{p}}, nil, expand.Result{Message: "p q"}, api.ErrSet)
			wantEnd(t, shell(), []api.Word{{quote(p)}}, nil, expand.Result{Message: "p q"}, api.ErrSet)
		}
	}
	for text, message := range map[string]string{
		"${y?}": "", `${y?""}`: "", "${y:?no way$n}": "no way5", `"${e:?"a  b"}"`: "a  b", "${y?$@}": "1 2 3", "${y?${k=q}$k}": "qq", "${y?\\$x'*'}": "$x*",
	} {
		wantEnd(t, shell(), parsed(t, text), nil, expand.Result{Message: message}, api.ErrSet)
		wantEnd(t, shell(), parsed(t, "$x", "${z=1}$(f)"+text, "${q?other}"), []string{"p", "q"}, expand.Result{Message: message}, api.ErrSet)
	}
	wantEnd(t, shell(), []api.Word{{op("y", api.Fail)}}, nil, expand.Result{}, api.ErrSet)
	wantEnd(t, shell(), []api.Word{{op("y", api.Fail, run("f"))}}, []string{"it is\nso\n\n"}, expand.Result{Message: "it is\nso"}, api.ErrSet)
	wantWrong(t, shell(), api.ErrDiv, "${y?$((1/0))}")
	wantEnd(t, shell(), parsed(t, "${y?a${z?b}c}"), nil, expand.Result{Message: "b"}, api.ErrSet)
}

// P10.1: Front, Fronts, Back and Backs take the shortest and the longest beginning and end that fits.
func TestShorten(t *testing.T) {
	v := with("p", "abcabc", "s", "*b*", "d", "x.y.z", "r", "a[b]c")
	for text, want := range map[string]string{
		"${p#a*c}": "abc|", "${p##a*c}": "", "${p%a*c}": "abc|", "${p%%a*c}": "", "${p#*b}": "cabc|", "${p##*b}": "c|", "${p%b*}": "abca|", "${p%%b*}": "a|",
		"${d#*.}": "y.z|", "${d##*.}": "z|", "${d%.*}": "x.y|", "${d%%.*}": "x|",
		"${p#b}": "abcabc|", "${p##b}": "abcabc|", "${p%b}": "abcabc|", "${p%%b}": "abcabc|",
		"${p#}": "abcabc|", "${p##}": "abcabc|", "${p%}": "abcabc|", "${p%%}": "abcabc|",
		"${p#*}": "abcabc|", "${p##*}": "", "${p%*}": "abcabc|", "${p%%*}": "",
		`${s#\*}`: "b*|", `${s#"*"}`: "b*|", `${s##'*b'}`: "*|", `${s%"*"}`: "*b|", `${s%%\**}`: "", `${s#"*"*}`: "b*|", `${p#"*"}`: "abcabc|", `${p##"?"*}`: "abcabc|",
		"${p#[a-b]}": "bcabc|", "${p#[!a]}": "abcabc|", "${p%%[bc]*}": "a|", `${r#a"[b]"}`: "c|", "${r#a[b]}": "a[b]c|", "${r%%\\[*}": "a|",
		"${p#$q}": "abcabc|", "${p#${p%?}}": "c|", "${p%$x}": "abcabc|", "${n#5}": "", "${n##?}": "", "${y#a}": "", "${y%%*}": "", "${e#*}": "",
		"${0#s}": "h|", "${#%2}": "", "${?#7}": "", "${2%3}": "2|", "${3#a}": "", "${x#a}": "b|", "${x%b}": "a|", "${x#a }": "b|",
	} {
		wantTexts(t, v, want, text)
	}
	for text, want := range map[string]string{
		`"${p#a*c}"`: "'abc'|", `"${p##*}"`: "|", `"${x#a}"`: "' b'|", `"${x%b}"`: "'a '|", `"${y#a}"`: "|", `"${s#"*"}"`: "'b*'|", `"${s#*}"`: "'*b*'|", `"${p#'a'}"`: "'abcabc'|", `"${s%\*}"`: "'*b'|", `"${2#2}"`: "' 3'|",
	} {
		wantTexts(t, v, want, text)
	}
	v.Set("q", "*")
	wantTexts(t, v, "", "${p##$q}")
	wantTexts(t, v, "abcabc|", `${p##"$q"}`)
	wantTexts(t, v, "'abcabc'|", `"${p##"$q"}"`)
	wantTexts(t, v, "|", `"${p##$q}"`)
	// Colon is nothing to them, and an empty Word is a pattern that fits nothing but nothing.
	for _, o := range []int{api.Front, api.Fronts, api.Back, api.Backs} {
		wantBoth(t, v, colon("p", o, lit("?")), map[bool]string{true: "bcabc|", false: "abcab|"}[o < api.Back], map[bool]string{true: "'bcabc'|", false: "'abcab'|"}[o < api.Back])
		wantBoth(t, v, colon("e", o, lit("?")), "", "|")
		wantBoth(t, v, op("x", o), "a|b|", "'a b'|")
	}
}

// P10.1: a pattern is bytes, and so is what it is held against.
func TestShortenBytes(t *testing.T) {
	v := with("u", "é☃\xff")
	wantTexts(t, v, "\xa9☃\xff|", "${u#?}")
	wantTexts(t, v, "é☃|", "${u%?}")
	wantFields(t, v, api.Word{op("u", api.Front, lit("\xc3"))}, "\xa9☃\xff|")
	wantFields(t, v, api.Word{op("u", api.Fronts, lit("*\x98"))}, "\x83\xff|")
	wantFields(t, v, api.Word{op("u", api.Backs, quote(lit("\x83\xff")))}, "é\xe2\x98|")
}

// P10.1: what a pattern sets is set behind it; the values are those that were ahead of it.
func TestShortenSets(t *testing.T) {
	after := wantAll(t, with("k", "57"), parsed(t, "${k#$((k=5))}$k"), nil, 0, "75|")
	wantSet(t, after, "k", "5")
	wantTexts(t, shell(), "q|", "${z#${z=q}}$z")
}

// P10.1: another Op is ErrArg, whatever the parameter is, and whatever its Word would do.
func TestOtherOps(t *testing.T) {
	for _, o := range []int{-1, 10, 11, 1 << 40, -1 << 40} {
		for _, c := range counted {
			p := op(c.name, o, run("f"), op("y", api.Fail))
			wantEnd(t, shell(), []api.Word{{p}}, nil, expand.Result{}, api.ErrArg)
			wantEnd(t, shell(), []api.Word{{lit("a")}, {quote(p)}}, []string{"p"}, expand.Result{}, api.ErrArg)
			wantEnd(t, shell(), []api.Word{{op("y", api.Default, p)}}, []string{"p"}, expand.Result{}, api.ErrArg)
		}
		// Within what is passed over it is none.
		wantFields(t, shell(), api.Word{op("x", api.Default, op("x", o)), op("y", api.Instead, op("x", o))}, "a|b|")
	}
}
