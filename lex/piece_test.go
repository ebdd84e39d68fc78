package lex_test

import (
	"math"
	"strings"
	"testing"

	"conch/api"
	"conch/lex"
)

// texts hands each row of at most n of the parts to do, one behind the other.
func texts(n int, parts []string, do func(s string)) {
	var more func(s string, n int)
	more = func(s string, n int) {
		do(s)
		if n == 0 {
			return
		}
		for _, p := range parts {
			more(s+p, n-1)
		}
	}
	more("", n)
}

// letters are the bytes of s as texts.
func letters(s string) []string { return strings.Split(s, "") }

// checkPiece holds Piece against what is wanted.
func checkPiece(t *testing.T, s string, at int, quoted bool, end, blame int, e api.Errno) {
	t.Helper()
	if gotEnd, gotBlame, got := lex.Piece(s, at, quoted); gotEnd != end || gotBlame != blame || got != e {
		t.Errorf("Piece(%q, %d, %v): %d, %d, %v; want %d, %d, %v", s, at, quoted, gotEnd, gotBlame, got, end, blame, e)
	}
}

// P4.1: a place of s is from 0 to below its length.
func TestPiecePlaces(t *testing.T) {
	for _, quoted := range []bool{false, true} {
		for _, at := range []int{math.MinInt, -2, -1, 3, 4, 100, math.MaxInt} {
			checkPiece(t, "a'`", at, quoted, 0, 0, api.ErrArg)
		}
		for _, at := range []int{math.MinInt, -1, 0, 1, math.MaxInt} {
			checkPiece(t, "", at, quoted, 0, 0, api.ErrArg)
		}
		checkPiece(t, "abc", 0, quoted, 1, 0, api.OK)
		checkPiece(t, "abc", 2, quoted, 3, 0, api.OK)
		checkPiece(t, "'\"${b", 4, quoted, 5, 0, api.OK)
		checkPiece(t, "$(a)", 2, quoted, 3, 0, api.OK)
		checkPiece(t, "\"a$(b)\"", 2, quoted, 6, 0, api.OK)
		checkPiece(t, "`b", 1, quoted, 2, 0, api.OK)
	}
}

// P4.1: each kind of thing, in a word and quoted.
func TestPieceKinds(t *testing.T) {
	for _, c := range []struct {
		s             string
		plain, quoted int
	}{
		{"a", 1, 1}, {"ab", 1, 1}, {"\x00", 1, 1}, {"\xff\xfe", 1, 1}, {"é", 1, 1}, {" a", 1, 1}, {"\n", 1, 1},
		{"#a", 1, 1}, {"|", 1, 1}, {"&&", 1, 1}, {"<<E", 1, 1}, {"{a}", 1, 1}, {"}", 1, 1}, {"(a)", 1, 1}, {"(", 1, 1}, {")", 1, 1},
		{`\`, 1, 1}, {`\a`, 2, 2}, {`\ab`, 2, 2}, {`\\a`, 2, 2}, {"\\\nb", 2, 2}, {`\'a'`, 2, 2}, {`\"a"`, 2, 2}, {`\${a}`, 2, 2},
		{"\\`", 2, 2}, {"\\\xc3\xa9", 2, 2},
		{"''", 2, 1}, {"'a'b", 3, 1}, {`'\'a'`, 3, 1}, {"'\"'\"", 3, 1}, {"'${'}", 4, 1}, {"'`'", 3, 1}, {"'\n'", 3, 1},
		{`""`, 2, 1}, {`"a"b`, 3, 1}, {`"\""a`, 4, 1}, {`"'"'`, 3, 1}, {`"("`, 3, 1}, {`"$"`, 3, 1}, {`"{}"a`, 4, 1},
		{`"\\"a`, 4, 1}, {`"${a}"b`, 6, 1}, {`"$(")")"b`, 8, 1}, {`"a b" c`, 5, 1}, {`"`, 0, 1}, {"\"`", 0, 1},
		{"$", 1, 1}, {"$a", 1, 1}, {"$$", 1, 1}, {"$$(a)", 1, 1}, {`$'a'`, 1, 1}, {`$"a"`, 1, 1}, {"$}", 1, 1}, {"$)", 1, 1}, {`$\(a)`, 1, 1},
		{"${}", 3, 3}, {"${a}b", 4, 4}, {"${a}}", 4, 4}, {"${{}}", 4, 4}, {"${(}", 4, 4}, {"${)}", 4, 4}, {"${$}", 4, 4}, {"${a b\n}c", 7, 7},
		{`${\}}`, 5, 5}, {`${"}"}`, 6, 6}, {"${'}'}", 6, 4}, {`${'"'}`, 6, 0}, {"${${}}", 6, 6}, {"${$(})}", 7, 7}, {"${'}", 0, 4},
		{"${(}", 4, 4}, {"${a-${b-'}'}}", 13, 12}, {`${"'"}`, 6, 6}, {`${"${'}"}"}`, 9, 9}, {`${"${'}"}`, 9, 9},
		{"$()", 3, 3}, {"$(a)b", 4, 4}, {"$(a))", 4, 4}, {"$(())", 5, 5}, {"$((1+(2)))a", 10, 10}, {"$()()", 3, 3}, {"$({)", 4, 4}, {"$(})", 4, 4},
		{`$(\))`, 5, 5}, {`$(")")`, 6, 6}, {"$(')')", 6, 6}, {"$(${)})", 7, 7}, {"$(${')}'})", 10, 10}, {"$($)", 4, 4}, {"$(#)", 4, 4},
		{"$(a\nb)", 6, 6}, {"${$(')')'}", 0, 10}, {"${$(${'}'})}", 12, 12},
	} {
		for quoted, end := range map[bool]int{false: c.plain, true: c.quoted} {
			if end > 0 {
				checkPiece(t, c.s, 0, quoted, end, 0, api.OK)
				checkPiece(t, "a\"'"+c.s, 3, quoted, end+3, 0, api.OK)
			} else if got, _, e := lex.Piece(c.s, 0, quoted); got != 0 || e == api.OK {
				t.Errorf("Piece(%q, 0, %v): %d, %v; want an error", c.s, quoted, got, e)
			}
		}
	}
}

// P4.1: a back quote that would be a byte alone, in each place; and where it is none.
func TestPieceBackQuote(t *testing.T) {
	for _, c := range []struct {
		s             string
		plain, quoted int // the byte to blame; below 0: none
	}{
		{"`", 0, 0}, {"`a`", 0, 0}, {"\"`\"", 1, -1}, {"${`}", 2, 2}, {"$(`)", 2, 2}, {"$((`))", 3, 3}, {"$(a(b`))", 5, 5},
		{"\"${`}\"", 3, -1}, {"${\"`\"}", 3, 3}, {"${'`'}", -1, 3}, {"$('`')", -1, -1}, {"$(\\`)", -1, -1}, {"${\\`}", -1, -1},
		{"\"\\`\"", -1, -1}, {"'`'", -1, -1}, {"\\`", -1, -1}, {"$`", -1, -1}, {"\"`", 1, -1}, {"${\"`", 3, 3}, {"$(`'", 2, 2}, {"$(`$(", 2, 2},
		{"${$(\"$('`'`", 10, 10}, {"\"${'`", 4, -1},
	} {
		for quoted, blame := range map[bool]int{false: c.plain, true: c.quoted} {
			end, got, e := lex.Piece(c.s, 0, quoted)
			if blame < 0 && e != api.OK {
				t.Errorf("Piece(%q, 0, %v): %v", c.s, quoted, e)
			}
			if blame >= 0 && (end != 0 || got != blame || e != api.ErrSyntax) {
				t.Errorf("Piece(%q, 0, %v): %d, %d, %v; want ErrSyntax at %d", c.s, quoted, end, got, e, blame)
			}
		}
	}
}

// P4.1: the text's end within each of them, and the first byte of the innermost is to blame.
func TestPieceEnd(t *testing.T) {
	for _, c := range []struct {
		s             string
		plain, quoted int // the byte to blame; below 0: none
	}{
		{"'", 0, -1}, {"'a", 0, -1}, {`'\`, 0, -1}, {`'"`, 0, -1}, {"'`", 0, -1},
		{`"`, 0, -1}, {`"a`, 0, -1}, {`"\"`, 0, -1}, {`"'`, 0, -1}, {`"\`, 0, -1}, {`"$`, 0, -1}, {`"(`, 0, -1},
		{"${", 0, 0}, {"${a", 0, 0}, {`${\}`, 0, 0}, {`${\`, 0, 0}, {"${$", 0, 0}, {"${(", 0, 0}, {"${${}", 0, 0},
		{"$(", 1, 1}, {"$(a", 1, 1}, {`$(\)`, 1, 1}, {`$(\`, 1, 1}, {"$(()", 1, 1}, {"$($", 1, 1}, {"$(${}'", 5, 5},
		{"$((", 2, 2}, {"$(a(b", 3, 3}, {"$(a(b)(c", 6, 6},
		{"${'", 2, 0}, {"${'}", 2, -1}, {`${"`, 2, 2}, {`${"'`, 2, 2}, {"${${", 2, 2}, {"${a$(", 4, 4}, {`${""`, 0, 0}, {"${''", 0, 0},
		{"$('", 2, 2}, {`$("`, 2, 2}, {"$(${", 2, 2}, {"$($(", 3, 3}, {`$("$("`, 5, 5}, {`$("$('`, 5, 5}, {"$('')", -1, -1}, {`$(""`, 1, 1},
		{`"${`, 1, -1}, {`"$(`, 2, -1}, {`"${'`, 1, -1}, {`"${"`, 3, -1}, {`"${""`, 1, -1}, {`"$('`, 3, -1}, {`"$()`, 0, -1}, {`"${}`, 0, -1},
	} {
		for quoted, blame := range map[bool]int{false: c.plain, true: c.quoted} {
			end, got, e := lex.Piece(c.s, 0, quoted)
			if blame < 0 && e != api.OK {
				t.Errorf("Piece(%q, 0, %v): %v", c.s, quoted, e)
			}
			if blame >= 0 && (end != 0 || got != blame || e != api.ErrQuote) {
				t.Errorf("Piece(%q, 0, %v): %d, %d, %v; want ErrQuote at %d", c.s, quoted, end, got, e, blame)
			}
		}
	}
	checkPiece(t, "ab\"c${d", 2, false, 0, 4, api.ErrQuote)
	checkPiece(t, "ab\"c${d", 2, true, 3, 0, api.OK)
}

// nested is n of what is counted within one another, and the place of the last one: by turns those of the kinds.
func nested(n int, kinds ...string) (s string, last int) {
	behind := ""
	for i := range n {
		k := kinds[i%len(kinds)]
		last = len(s)
		switch k {
		case "$(":
			last++
			behind = ")" + behind
		case "(":
			behind = ")" + behind
		case "${":
			behind = "}" + behind
		case `"`:
			behind = `"` + behind
		}
		s += k
	}
	return s + behind, last
}

// P4.1: 40 of what is counted may stand within one another.
func TestPieceDepth(t *testing.T) {
	for _, kinds := range [][]string{
		{"${"}, {"$("}, {"$(", "(", "(", "("}, {`"`, "${"}, {`"`, "$("}, {"${", "$("}, {"${", `"`}, {"$(", `"`, "${"}, {"$(", "(", "${", `"`},
	} {
		for n := 38; n <= 43; n++ {
			s, _ := nested(n, kinds...)
			_, blame := nested(41, kinds...)
			if n > 40 {
				checkPiece(t, s, 0, false, 0, blame, api.ErrBig)
				checkPiece(t, "'a\\"+s, 3, false, 0, blame+3, api.ErrBig)
				checkPiece(t, s[:blame+2], 0, false, 0, blame, api.ErrBig)
				continue
			}
			checkPiece(t, s, 0, false, len(s), 0, api.OK)
			checkPiece(t, "'a\\"+s, 3, false, len(s)+3, 0, api.OK)
			if kinds[0] != `"` {
				checkPiece(t, s+"b", 0, true, len(s), 0, api.OK)
			}
		}
	}
}

// P4.1: each kind as the 41st one, and what is not counted within 40; those that ended count no more.
func TestPieceDepthOfEach(t *testing.T) {
	in := strings.Repeat("$(", 40)
	out := strings.Repeat(")", 40)
	for _, c := range []struct {
		s     string
		blame int
	}{
		{`"`, 0}, {`"a"`, 0}, {"${", 0}, {"${}", 0}, {"(", 0}, {"()", 0}, {"$(", 1}, {"$()", 1}, {"a\"`", 1}, {"'a'\\`$a(", 7}, {"(`", 0},
	} {
		checkPiece(t, in+c.s, 0, false, 0, 80+c.blame, api.ErrBig)
		checkPiece(t, in+c.s, 0, true, 0, 80+c.blame, api.ErrBig)
		checkPiece(t, in+c.s+out, 0, false, 0, 80+c.blame, api.ErrBig)
	}
	for _, s := range []string{"", "a", "'a'", "'('", `'"'`, `\"`, `\(`, `\${`, "$", "{", "}", "$a", "$$"} {
		checkPiece(t, in+s+out, 0, false, 80+len(s)+40, 0, api.OK)
		checkPiece(t, in+s, 0, false, 0, 79, api.ErrQuote)
	}
	checkPiece(t, in+"'", 0, false, 0, 80, api.ErrQuote)
	checkPiece(t, in+"`", 0, false, 0, 80, api.ErrSyntax)

	in, out = in[2:], out[1:]
	for _, s := range []string{`""`, "${}", "()", "$()"} {
		all := in + strings.Repeat(s, 50) + out
		checkPiece(t, all, 0, false, len(all), 0, api.OK)
		all = in + s + "(" + s + ")" + out
		if _, blame, e := lex.Piece(all, 0, false); e != api.ErrBig || blame < 78+len(s) {
			t.Errorf("%s: %d, %v", s, blame, e)
		}
	}
	many := "$(" + strings.Repeat(`"${a}" $(b (c)) `, 400) + ")"
	checkPiece(t, many, 0, false, len(many), 0, api.OK)
}

// P4.1: a text of any length has things.
func TestPieceLong(t *testing.T) {
	a := strings.Repeat("a", 1<<20)
	checkPiece(t, a, 1<<19, false, 1<<19+1, 0, api.OK)
	checkPiece(t, "'"+a+"'", 0, false, 1<<20+2, 0, api.OK)
	checkPiece(t, `"`+a+`"`, 0, false, 1<<20+2, 0, api.OK)
	checkPiece(t, "$("+a+"`", 0, false, 0, 1<<20+2, api.ErrSyntax)
	checkPiece(t, "${"+a, 0, true, 0, 0, api.ErrQuote)
	deep := strings.Repeat("$(", 1<<20)
	checkPiece(t, deep, 0, false, 0, 81, api.ErrBig)
}

// holdPiece holds Piece against the oracle at each place of s.
func holdPiece(t *testing.T, s string) {
	for at := range len(s) {
		for _, quoted := range []bool{false, true} {
			end, blame, e := lex.Piece(s, at, quoted)
			wantEnd, wantBlame, want := pieceOracle(s, at, quoted)
			if end != wantEnd || blame != wantBlame || e != want {
				t.Fatalf("Piece(%q, %d, %v): %d, %d, %v; want %d, %d, %v", s, at, quoted, end, blame, e, wantEnd, wantBlame, want)
			}
		}
	}
}

// P4.1, R1: texts of all bytes, all short texts of the bytes that matter, and of parts, are as the oracle has them.
func TestPieceAll(t *testing.T) {
	for c := range 256 {
		for d := range 256 {
			holdPiece(t, string([]byte{byte(c), byte(d)}))
			holdPiece(t, string([]byte{'$', '(', byte(c), byte(d), ')'}))
			holdPiece(t, string([]byte{'"', '$', '{', byte(c), byte(d), '}', '"'}))
		}
	}
	texts(5, letters("\\'\"${}()`a"), func(s string) { holdPiece(t, s) })
	texts(6, []string{"${", "$(", "(", `"`, "'", "}", ")"}, func(s string) { holdPiece(t, s) })
	w := writer{1}
	for range 20000 {
		holdPiece(t, w.thing(4))
	}
}
