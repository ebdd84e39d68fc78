package glob_test

import (
	"reflect"
	"slices"
	"strings"
	"testing"

	"conch/glob"
)

// bytesOf are the tokens that fit s alone.
func bytesOf(s string) []glob.Token {
	var l []glob.Token
	for i := range len(s) {
		l = append(l, glob.Token{Kind: glob.Byte, C: s[i]})
	}
	return l
}

// class is a class of the ranges that are told by two bytes each.
func class(not bool, pairs string) glob.Token {
	t := glob.Token{Kind: glob.Class, Not: not}
	for i := 0; i < len(pairs); i += 2 {
		t.Ranges = append(t.Ranges, glob.Range{From: pairs[i], To: pairs[i+1]})
	}
	return t
}

// marks makes a quoted list of a text: an x is true, any other byte false.
func marks(s string) []bool {
	var l []bool
	for i := range len(s) {
		l = append(l, s[i] == 'x')
	}
	return l
}

// same tells whether two lists of tokens are one, where a list without elements may be nil or not.
func same(a, b []glob.Token) bool {
	return slices.EqualFunc(a, b, func(x, y glob.Token) bool {
		return x.Kind == y.Kind && x.C == y.C && x.Not == y.Not && slices.Equal(x.Ranges, y.Ranges)
	})
}

// texts are all texts of at most n bytes of set.
func texts(set string, n int) []string {
	all := []string{""}
	for from := 0; n > 0; n-- {
		to := len(all)
		for _, s := range all[from:to] {
			for i := range len(set) {
				all = append(all, s+set[i:i+1])
			}
		}
		from = to
	}
	return all
}

var (
	one  = glob.Token{Kind: glob.One}
	many = glob.Token{Kind: glob.Many}
)

// join is lists of tokens, one behind the other.
func join(l ...[]glob.Token) []glob.Token { return slices.Concat(l...) }

// list is a list of tokens.
func list(l ...glob.Token) []glob.Token { return l }

// TestParse: P2.1.
func TestParse(t *testing.T) {
	for _, c := range []struct {
		s, quoted string
		want      []glob.Token
	}{
		{"", "", nil},
		{"", "xxx", nil},
		{"ab", "", bytesOf("ab")},
		{"ab", "x", bytesOf("ab")},
		{"?", "", list(one)},
		{"?", "x", bytesOf("?")},
		{"*", "", list(many)},
		{"*", "x", bytesOf("*")},
		{"**", "", list(many, many)},
		{"**", "x", join(bytesOf("*"), list(many))},
		{"**", ".x", join(list(many), bytesOf("*"))},
		{"*?", "..xxx", list(many, one)},
		{"a]-!^\\", "", bytesOf("a]-!^\\")},
		{"\x00\xff", "", bytesOf("\x00\xff")},
		// Where a class begins and ends.
		{"[a]", "", list(class(false, "aa"))},
		{"[a]", "x", bytesOf("[a]")},
		{"[a]", "..x", bytesOf("[a]")},
		{"[a]", ".x", list(class(false, "aa"))},
		{"[a]]", "", join(list(class(false, "aa")), bytesOf("]"))},
		{"[a]]", "..x", list(class(false, "aa]]"))},
		{"[", "", bytesOf("[")},
		{"[]", "", bytesOf("[]")},
		{"[]]", "", list(class(false, "]]"))},
		{"[]]", ".x", list(class(false, "]]"))},
		{"[]]", "..x", bytesOf("[]]")},
		{"[]a]", "", list(class(false, "]]aa"))},
		{"[][]", "", list(class(false, "]][["))},
		{"[[]", "", list(class(false, "[["))},
		{"[a", "", bytesOf("[a")},
		{"[a*", "", join(bytesOf("[a"), list(many))},
		{"[?", "", join(bytesOf("["), list(one))},
		{"[[a]", "", list(class(false, "[[aa"))},
		{"[a[b]", "", list(class(false, "aa[[bb"))},
		{"][a]", "", join(bytesOf("]"), list(class(false, "aa")))},
		{"[a][b", "", join(list(class(false, "aa")), bytesOf("[b"))},
		{"[a][]", "", join(list(class(false, "aa")), bytesOf("[]"))},
		{"[*?]x", "", join(list(class(false, "**??")), bytesOf("x"))},
		{"[a]?[b]*", "", list(class(false, "aa"), one, class(false, "bb"), many)},
		{"[[]]", "", join(list(class(false, "[[")), bytesOf("]"))},
		{"[[]a]", ".x", join(list(class(false, "[[")), bytesOf("a]"))},
		// A `!` behind the `[`.
		{"[!a]", "", list(class(true, "aa"))},
		{"[!a]", ".x", list(class(false, "!!aa"))},
		{"[!]", "", bytesOf("[!]")},
		{"[!]", ".x", list(class(false, "!!"))},
		{"[!", "", bytesOf("[!")},
		{"[!a", "", bytesOf("[!a")},
		{"[!]]", "", list(class(true, "]]"))},
		{"[!]]", "..x", list(class(true, "]]"))},
		{"[!]]", "...x", bytesOf("[!]]")},
		{"[!]a]", "", list(class(true, "]]aa"))},
		{"[!!]", "", list(class(true, "!!"))},
		{"[a!]", "", list(class(false, "aa!!"))},
		{"[^a]", "", list(class(false, "^^aa"))},
		{"[!a-c]?", "", list(class(true, "ac"), one)},
		{"[!-a]", "", list(class(true, "--aa"))},
		{"[!-a]", ".x", list(class(false, "!a"))},
		// A `-` in a class.
		{"[a-c]", "", list(class(false, "ac"))},
		{"[a-c]", "..x", list(class(false, "aa--cc"))},
		{"[a-c]", ".x.x", list(class(false, "ac"))},
		{"[c-a]", "", list(class(false, "ca"))},
		{"[a-a]", "", list(class(false, "aa"))},
		{"[a-]", "", list(class(false, "aa--"))},
		{"[-a]", "", list(class(false, "--aa"))},
		{"[-]", "", list(class(false, "--"))},
		{"[--]", "", list(class(false, "----"))},
		{"[---]", "", list(class(false, "--"))},
		{"[--a]", "", list(class(false, "-a"))},
		{"[--a]", ".x", list(class(false, "-a"))},
		{"[--a]", "..x", list(class(false, "----aa"))},
		{"[a--]", "", list(class(false, "a-"))},
		{"[a-c-e]", "", list(class(false, "ac--ee"))},
		{"[a-c-e-g]", "", list(class(false, "ac-"+"-eg"))},
		{"[a-cd-f]", "", list(class(false, "acdf"))},
		{"[ab-d]", "", list(class(false, "aabd"))},
		{"[a-]c]", "", join(list(class(false, "aa--")), bytesOf("c]"))},
		{"[a-]c]", "...x", list(class(false, "a]cc"))},
		{"[]-a]", "", list(class(false, "]a"))},
		{"[]-]", "", list(class(false, "]]--"))},
		{"[a-c", "", bytesOf("[a-c")},
		{"[\x00-\xff]", "", list(class(false, "\x00\xff"))},
	} {
		if got := glob.Parse(c.s, marks(c.quoted)); !same(got, c.want) {
			t.Errorf("Parse(%q, %q) = %v, not %v", c.s, c.quoted, got, c.want)
		}
	}
}

// TestParseByte: P2.1: a byte that is no `?`, `*` or `[` is a Byte, and so is each that is quoted.
func TestParseByte(t *testing.T) {
	for c := range 256 {
		s := string([]byte{byte(c)})
		want := bytesOf(s)
		if got := glob.Parse(s, []bool{true}); !reflect.DeepEqual(got, want) {
			t.Errorf("quoted %q is %v", s, got)
		}
		switch c {
		case '?':
			want = list(one)
		case '*':
			want = list(many)
		}
		for _, quoted := range [][]bool{nil, {}, {false}, {false, true}} {
			if got := glob.Parse(s, quoted); !reflect.DeepEqual(got, want) {
				t.Errorf("%q is %v", s, got)
			}
		}
	}
}

// reading is P2.1 said in another way: the bytes of a pattern that are quoted are moved out of the way (their 8th bit
// is set), and what begins a text is looked for by the text alone.
func reading(s string) []glob.Token {
	if s == "" {
		return nil
	}
	plain := func(b byte) byte { return b &^ 0x80 }
	if s[0] == '[' {
		body, not := strings.CutPrefix(s[1:], "!")
		if body != "" {
			if end := strings.IndexByte(body[1:], ']') + 1; end > 0 {
				tok := glob.Token{Kind: glob.Class, Not: not}
				for in := body[:end]; in != ""; {
					from, to, size := in[0], in[0], 1
					if len(in) > 2 && in[1] == '-' {
						to, size = in[2], 3
					}
					tok.Ranges = append(tok.Ranges, glob.Range{From: plain(from), To: plain(to)})
					in = in[size:]
				}
				return append([]glob.Token{tok}, reading(body[end+1:])...)
			}
		}
	}
	first := glob.Token{Kind: glob.Byte, C: plain(s[0])}
	switch s[0] {
	case '?':
		first = one
	case '*':
		first = many
	}
	return append([]glob.Token{first}, reading(s[1:])...)
}

// TestParseAll: P2.1, of all short patterns, whichever of their bytes are quoted.
func TestParseAll(t *testing.T) {
	for _, s := range texts("a[]!-*", 5) {
		for mask := range 1 << len(s) {
			moved, quoted := []byte(s), make([]bool, len(s))
			for i := range len(s) {
				if mask>>i&1 == 1 {
					moved[i] |= 0x80
					quoted[i] = true
				}
			}
			want := reading(string(moved))
			if got := glob.Parse(s, quoted); !same(got, want) {
				t.Fatalf("Parse(%q, %v) = %v, not %v", s, quoted, got, want)
			}
		}
	}
	for _, s := range texts("a[]!-", 7) {
		if got, want := glob.Parse(s, nil), reading(s); !same(got, want) {
			t.Fatalf("Parse(%q) = %v, not %v", s, got, want)
		}
	}
}

// TestParseLong: P2.1 and R1: a long pattern of classes that don't end is taken apart as well.
func TestParseLong(t *testing.T) {
	s := strings.Repeat("[!", 1<<20)
	l := glob.Parse(s, nil)
	if !same(l, bytesOf(s)) {
		t.Error("not the bytes")
	}
	if l := glob.Parse(s+"]", nil); len(l) != 1 || !l[0].Not || len(l[0].Ranges) != 1<<21-2 {
		t.Error("not one class")
	}
}

// TestParseMemory: R2: nothing that is handed in is written into, and what is answered is the caller's.
func TestParseMemory(t *testing.T) {
	quoted := []bool{true, false, true, true, true, true, true}
	held := slices.Clone(quoted)
	a := glob.Parse("*[a][a]", quoted[:2])
	b := glob.Parse("*[a][a]", quoted[:2])
	if !slices.Equal(quoted, held) {
		t.Error("quoted was written into")
	}
	want := join(bytesOf("*"), list(class(false, "aa"), class(false, "aa")))
	if !same(a, want) || !same(b, want) {
		t.Error(a, b)
	}
	a[1].Ranges[0] = glob.Range{From: 'x', To: 'y'}
	_ = append(a[1].Ranges, glob.Range{From: 'z', To: 'z'})
	if a[2].Ranges[0].From != 'a' || b[1].Ranges[0].From != 'a' {
		t.Error("ranges are shared")
	}
}

// TestFits: P2.2, the document's examples and the edges of single tokens.
func TestFits(t *testing.T) {
	for _, c := range []struct {
		p, quoted string
		fits, not []string
	}{
		{"a*c", "", []string{"ac", "abbc", "acc", "a*c"}, []string{"ab", "", "a", "c", "bac", "acb"}},
		{"[!a-c]?", "", []string{"dx", "!a", "dd"}, []string{"ax", "d", "bx", "cx", "dxx", ""}},
		{"[]a]", "", []string{"]", "a"}, []string{"b", "", "[]a]", "]a"}},
		{"[a", "", []string{"[a"}, []string{"a", "[", "[aa"}},
		{"*", "x", []string{"*"}, []string{"a", "", "**"}},
		{"", "", []string{""}, []string{"a"}},
		{"*", "", []string{"", "a", "ab", "\x00\xff\n"}, nil},
		{"**", "", []string{"", "a", "ab"}, nil},
		{"**a**", "", []string{"a", "bab", "ab", "ba", "aa"}, []string{"", "b"}},
		{"?", "", []string{"a", "?", "\x00", "\xff", "\n", "/", "."}, []string{"", "ab", "é"}},
		{"*a?*", "", []string{"ab", "aa", "xabx"}, []string{"a", "ba", ""}},
		{"[c-a]", "", nil, []string{"a", "b", "c", "", "-"}},
		{"[!c-a]", "", []string{"a", "b", "c", "-"}, []string{""}},
		{"[b-d]", "", []string{"b", "c", "d"}, []string{"a", "e", "-", "bc"}},
		{"[b-d]", "..x", []string{"b", "-", "d"}, []string{"c", "a"}},
		{"[a-cx-z]", "", []string{"a", "b", "c", "x", "y", "z"}, []string{"d", "w", "-"}},
		{"*.go", "", []string{".go", "a.go", "a.go.go"}, []string{"a.gol", "go", ""}},
		{"a*b*c", "", []string{"abc", "aXbYc", "abbcc"}, []string{"acb", "ab", "bc"}},
	} {
		l := glob.Parse(c.p, marks(c.quoted))
		for _, s := range c.fits {
			if !glob.Match(l, s) {
				t.Errorf("%q (%q) should fit %q", c.p, c.quoted, s)
			}
		}
		for _, s := range c.not {
			if glob.Match(l, s) {
				t.Errorf("%q (%q) should not fit %q", c.p, c.quoted, s)
			}
		}
	}
}

// tokensOfAllKinds are tokens that Parse answers, and tokens that it doesn't.
func tokensOfAllKinds() []glob.Token {
	return []glob.Token{
		{Kind: glob.Byte, C: 'a'}, {Kind: glob.Byte, C: 'b', Not: true, Ranges: []glob.Range{{From: 'a', To: 'b'}}},
		one, {Kind: glob.One, C: 'a', Not: true},
		many, {Kind: glob.Many, C: 'a', Not: true, Ranges: []glob.Range{{From: 'a', To: 'a'}}},
		class(false, "aa"), class(true, "aa"), class(false, ""), class(true, ""), class(false, "ba"), class(true, "ba"),
		{Kind: glob.Class, C: 'b', Ranges: []glob.Range{{From: 'z', To: 'a'}, {From: 'b', To: 'c'}}},
		{}, {C: 'a'}, {Kind: -1, C: 'a'}, {Kind: 5, C: 'a', Not: true}, {Kind: 9, Not: true, Ranges: []glob.Range{{From: 0, To: 255}}},
	}
}

// alone tells, by the words of the chapter, whether one token fits a text.
func alone(t glob.Token, s string) bool {
	switch t.Kind {
	case glob.Byte:
		return s == string([]byte{t.C})
	case glob.One:
		return len(s) == 1
	case glob.Many:
		return true
	case glob.Class:
		if len(s) != 1 {
			return false
		}
		in := 0
		for _, r := range t.Ranges {
			if s[0] >= r.From && s[0] <= r.To {
				in++
			}
		}
		if t.Not {
			return in == 0
		}
		return in > 0
	}
	return false
}

// fits tells, by the words of the chapter, whether l fits s: by trying each way to cut s.
func fits(l []glob.Token, s string) bool {
	if len(l) == 0 {
		return s == ""
	}
	for n := range len(s) + 1 {
		if alone(l[0], s[:n]) && fits(l[1:], s[n:]) {
			return true
		}
	}
	return false
}

// lists are all lists of at most three of the tokens.
func lists() [][]glob.Token {
	all := tokensOfAllKinds()
	l := [][]glob.Token{nil, {}}
	for _, a := range all {
		l = append(l, list(a))
		for _, b := range all {
			l = append(l, list(a, b))
			for _, c := range all {
				l = append(l, list(a, b, c))
			}
		}
	}
	return l
}

// TestOneToken: P2.2: each token by itself, over each byte.
func TestOneToken(t *testing.T) {
	for _, tok := range tokensOfAllKinds() {
		l := list(tok)
		for c := range 256 {
			if s := string([]byte{byte(c)}); glob.Match(l, s) != alone(tok, s) {
				t.Errorf("%v, %q", tok, s)
			}
		}
		if glob.Match(l, "") != alone(tok, "") || glob.Match(l, "aa") != alone(tok, "aa") {
			t.Errorf("%v: the empty text, or two bytes", tok)
		}
	}
}

// TestAll: P2.2 and P2.3, of all short lists of tokens and all short texts.
func TestAll(t *testing.T) {
	short := texts("abc", 3)
	for _, l := range lists() {
		for _, s := range short {
			if got, want := glob.Match(l, s), fits(l, s); got != want {
				t.Fatalf("Match(%v, %q) = %v", l, s, got)
			}
			front, back := [2]int{-1, -1}, [2]int{-1, -1}
			for n := len(s); n >= 0; n-- {
				note(&front, n, fits(l, s[:n]))
				note(&back, n, fits(l, s[len(s)-n:]))
			}
			if got := [2]int{glob.Front(l, s, false), glob.Front(l, s, true)}; got != front {
				t.Fatalf("Front(%v, %q) = %v, not %v", l, s, got, front)
			}
			if got := [2]int{glob.Back(l, s, false), glob.Back(l, s, true)}; got != back {
				t.Fatalf("Back(%v, %q) = %v, not %v", l, s, got, back)
			}
		}
	}
}

// note takes n, which is below all ahead of it, as the shortest one, and the first one as the longest one as well.
func note(ends *[2]int, n int, fits bool) {
	if fits && ends[1] < 0 {
		ends[1] = n
	}
	if fits {
		ends[0] = n
	}
}

// TestSpecial: P2.2.
func TestSpecial(t *testing.T) {
	for _, l := range lists() {
		want := false
		for _, tok := range l {
			want = want || tok.Kind != glob.Byte
		}
		if glob.Special(l) != want {
			t.Fatalf("Special(%v) is not %v", l, want)
		}
	}
	for _, c := range []struct {
		p, quoted string
		want      bool
	}{{"", "", false}, {"ab]", "", false}, {"a?", "", true}, {"*b", "", true}, {"[a]", "", true}, {"[a", "", false}, {"a?*[b]", "xxxx", false}} {
		if glob.Special(glob.Parse(c.p, marks(c.quoted))) != c.want {
			t.Errorf("Special of %q (%q) is not %v", c.p, c.quoted, c.want)
		}
	}
}

// TestEnds: P2.3, the document's examples and the edges.
func TestEnds(t *testing.T) {
	for _, c := range []struct {
		p, s                                string
		front, frontLong, back, backLongest int
	}{
		{"a*", "aab", 1, 3, 2, 3},
		{"*b", "aab", 3, 3, 1, 3},
		{"", "ab", 0, 0, 0, 0},
		{"", "", 0, 0, 0, 0},
		{"*", "", 0, 0, 0, 0},
		{"*", "abc", 0, 3, 0, 3},
		{"?", "", -1, -1, -1, -1},
		{"?", "ab", 1, 1, 1, 1},
		{"x", "ab", -1, -1, -1, -1},
		{"a", "ba", -1, -1, 1, 1},
		{"b", "ba", 1, 1, -1, -1},
		{"*/", "/a/b/c", 1, 5, -1, -1},
		{"/*", "/a/b/c", 1, 6, 2, 6},
		{"a?b", "aabab", 3, 3, -1, -1},
		{"a?", "aab", 2, 2, 2, 2},
		{"ab[c]", "abcabc", 3, 3, 3, 3},
		{"abcd", "abc", -1, -1, -1, -1},
	} {
		l := glob.Parse(c.p, nil)
		got := [4]int{glob.Front(l, c.s, false), glob.Front(l, c.s, true), glob.Back(l, c.s, false), glob.Back(l, c.s, true)}
		if want := [4]int{c.front, c.frontLong, c.back, c.backLongest}; got != want {
			t.Errorf("%q in %q: %v, not %v", c.p, c.s, got, want)
		}
	}
}

// TestLongTexts: P2.2 and P2.3 of texts of many lengths, the ones beside 2^7 among them.
func TestLongTexts(t *testing.T) {
	l := glob.Parse("a*b*[c-d]?", nil)
	for n := range 300 {
		s := "a" + strings.Repeat("x", n) + "b" + "cc"
		if !glob.Match(l, s) || glob.Match(l, s+"xx") {
			t.Fatal(n)
		}
		if f, g := glob.Front(l, s+"dxxx", false), glob.Front(l, s+"dxxx", true); f != n+4 || g != n+6 {
			t.Fatal(n, f, g)
		}
		if f, g := glob.Back(l, "axa"+s, false), glob.Back(l, "axa"+s, true); f != n+4 || g != n+7 {
			t.Fatal(n, f, g)
		}
	}
}

// TestManyStars: P2.2 and R1: a pattern of many Many comes to an end in good time.
func TestManyStars(t *testing.T) {
	l := glob.Parse(strings.Repeat("*a", 200)+"b", nil)
	s := strings.Repeat("a", 4096)
	if glob.Match(l, s) || !glob.Match(l, s+"b") || glob.Front(l, s, false) != -1 || glob.Back(l, s+"b", false) != 201 {
		t.Error("many stars")
	}
}

// TestQuoted: P2.4: a text all of whose bytes are quoted fits itself and nothing else.
func TestQuoted(t *testing.T) {
	all := texts("a*?[]!-", 4)
	for _, s := range all {
		l := glob.Parse(s, slices.Repeat([]bool{true}, len(s)))
		if glob.Special(l) || !glob.Match(l, s) {
			t.Fatalf("%q doesn't fit itself", s)
		}
	}
	some := texts("a*?[]", 3)
	for _, s := range some {
		l := glob.Parse(s, slices.Repeat([]bool{true}, len(s)+1))
		for _, other := range some {
			if glob.Match(l, other) != (s == other) {
				t.Fatalf("%q, %q", s, other)
			}
		}
	}
}

// TestBehind: P2.4: tokens, one list behind the other.
func TestBehind(t *testing.T) {
	patterns := texts("a?*", 3)
	short := texts("ab", 4)
	for _, p := range patterns {
		for _, q := range patterns {
			a, b := glob.Parse(p, nil), glob.Parse(q, nil)
			both := join(a, b)
			for _, s := range short {
				want := false
				for n := range len(s) + 1 {
					want = want || glob.Match(a, s[:n]) && glob.Match(b, s[n:])
				}
				if glob.Match(both, s) != want {
					t.Fatalf("%q behind %q, %q", q, p, s)
				}
			}
		}
	}
}

// TestMemory: R2 and R3: the lists that are handed in stay as they are, what is behind their length too.
func TestMemory(t *testing.T) {
	all := glob.Parse("ab*[c-d]?z", nil)
	held := glob.Parse("ab*[c-d]?z", nil)
	l := all[:4]
	for range 2 {
		if !glob.Match(l, "abxd") || glob.Front(l, "abcd", false) != 3 || glob.Back(l, "aabcd", true) != 4 || !glob.Special(l) {
			t.Error("another answer")
		}
		if !same(all, held) {
			t.Error("the tokens were written into")
		}
	}
}
