package expand_test

import (
	"strings"
	"testing"

	"conch/api"
	"conch/expand"
	"conch/vars"
)

// P10.1: a Sum is its number in digits.
func TestSum(t *testing.T) {
	for text, want := range map[string]string{
		"1+2": "3|", "": "0|", " \n": "0|", "-5": "-5|", "n*n": "25|", "y": "0|", "y+1": "1|", "e": "0|",
		"$n+1": "6|", "${n}0": "50|", "$y": "0|", "${y-4}": "4|", "${#x}": "3|", "$#$?": "27|", "$((1+1))+$((n))": "7|",
		"n > 3 ? 1 : 1/0": "1|", "0x10": "16|", "1<<63": "-9223372036854775808|",
		"${y:-$((${n}*2))}+1": "11|", "1 \\\n+ 2": "3|",
	} {
		wantFields(t, shell(), api.Word{sum(text)}, want)
		wantFields(t, shell(), api.Word{quote(sum(text))}, "'"+strings.TrimRight(want, "|")+"'|")
		wantOne(t, shell(), api.Word{sum(text)}, want)
	}
	wantFields(t, with("IFS", "0"), api.Word{sum("1050")}, "1|5|")
	wantFields(t, with("IFS", "0"), api.Word{quote(sum("1050"))}, "'1050'|")
	wantFields(t, with("IFS", "-"), api.Word{sum("0-5")}, "|5|")
	wantFields(t, shell(), api.Word{lit("a"), sum("1"), quote(sum("2"))}, "a1'2'|")
}

// P10.1: what a Sum sets is set, in order, for all that stands behind it, and in Vars.
func TestSumSets(t *testing.T) {
	v := shell()
	after := wantAll(t, v, parsed(t, `$((m=n+1))$m`, `$m`, `$((m+=m))`, `"$((n = k = m * 2))$n$k"`), nil, 0, "66|6|12|'242424'|")
	wantSet(t, after, "m", "12")
	wantSet(t, after, "n", "24")
	wantSet(t, after, "k", "24")
	wantSet(t, v, "n", "5")
	wantUnset(t, v, "m")
	wantUnset(t, v, "k")
	after = wantAll(t, v, parsed(t, `$(((m=1)+(m=m+1)*10))$m`), nil, 0, "212|")
	wantSet(t, after, "m", "2")
	// What is passed over is not set.
	after = wantAll(t, v, parsed(t, `$((0 && (m = 1)))`), nil, 0, "0|")
	wantUnset(t, after, "m")
	// A Sum within a Sum sets ahead of it.
	wantTexts(t, v, "9|4|", `$(($((m=4))+m+1))`, "$m")
	// Variables that are there but not set are no pairs; what an expression sets keeps being exported.
	v.Export("q")
	wantTexts(t, v, "1|", `$((q+1))`)
	after = wantAll(t, v, parsed(t, `$((q=3))`), nil, 0, "3|")
	if l := after.Env(); len(l) != 1 || l[0] != "q=3" {
		t.Errorf("Env() = %q", l)
	}
}

// P10.1: what stands in a Sum is read as a text in place: quotes are bytes, and no part of it is parted.
func TestSumInPlace(t *testing.T) {
	v := vars.New("sh", "1", "2")
	v.Set("IFS", ":")
	v.Set("s", "1 + 2")
	v.Set("c", "4:5")
	wantFields(t, v, api.Word{sum("$s")}, "3|")
	wantFields(t, v, api.Word{sum("($s)*2")}, "6|")
	wantWrong(t, v, api.ErrSyntax, `$(("1"))`)
	wantWrong(t, v, api.ErrSyntax, `$(('1'))`)
	wantWrong(t, v, api.ErrSyntax, `$(($c))`)
	// A border between arguments is a blank.
	wantWrong(t, v, api.ErrSyntax, `$(($@))`)
	wantWrong(t, v, api.ErrSyntax, `$(($*))`)
	v.SetArgs("1 +", "2")
	wantFields(t, v, api.Word{sum("$@")}, "3|")
	wantWrong(t, v, api.ErrSyntax, `$(($*))`)
	v.Set("IFS", "")
	wantFields(t, v, api.Word{sum("$*")}, "3|")
	v.SetArgs("1", "2")
	wantFields(t, v, api.Word{sum("$*")}, "12|")
	v.Set("IFS", "+")
	wantFields(t, v, api.Word{sum("$*")}, "3|")
}

// P10.1: a Sum that is none, or whose text is none, is an error of word.Here or of arith, and nothing else.
func TestSumWrong(t *testing.T) {
	v := with("bad", "1 2")
	v.Readonly("n")
	for text, wrong := range map[string]api.Errno{
		"1+": api.ErrSyntax, "1 2": api.ErrSyntax, "n=1,2": api.ErrSyntax, ")": api.ErrSyntax, "1=2": api.ErrSyntax, "$x": api.ErrSyntax, "x": api.ErrSyntax, "bad": api.ErrSyntax, "\xff": api.ErrSyntax,
		"1/0": api.ErrDiv, "n%(n-5)": api.ErrDiv, "$n/$e 0": api.ErrDiv,
		"n=1": api.ErrRead, "(m=1)+(n=2)": api.ErrRead, "n+=m=3": api.ErrRead,
		"${}": api.ErrSyntax, "${x": api.ErrQuote, "$(f": api.ErrQuote,
		"${y?no}":                 api.ErrSet,
		strings.Repeat("1", 4097): api.ErrBig,
		"${y=" + strings.Repeat(" ", 2100) + "}$y": api.ErrBig,
	} {
		want := expand.Result{}
		if wrong == api.ErrSet {
			want.Message = "no"
		}
		wantEnd(t, v, []api.Word{{sum(text)}}, nil, want, wrong)
		wantEnd(t, v, []api.Word{{quote(sum(text))}}, nil, want, wrong)
		wantEnd(t, v, []api.Word{{lit("a")}, {plain("x"), sum(text)}, {op("y", api.Fail)}}, nil, want, wrong)
		wantEnd(t, v, []api.Word{{op("y", api.Default, sum(text))}}, nil, want, wrong)
	}
	wantSet(t, v, "n", "5")
	wantUnset(t, v, "m")
}
