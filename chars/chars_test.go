package chars_test

import (
	"math"
	"slices"
	"strings"
	"testing"

	"conch/api"
	"conch/chars"
)

// texts is all texts of at most most bytes of an alphabet, the empty one among them.
func texts(alphabet string, most int) []string {
	all := []string{""}
	for from := 0; most > 0; most-- {
		to := len(all)
		for _, s := range all[from:to] {
			for i := range len(alphabet) {
				all = append(all, s+alphabet[i:i+1])
			}
		}
		from = to
	}
	return all
}

// P1.1: every byte is asked; the classes are written out byte by byte.
func TestClasses(t *testing.T) {
	const letters = "abcdefghijklmnopqrstuvwxyzABCDEFGHIJKLMNOPQRSTUVWXYZ_"
	for _, class := range []struct {
		name string
		ask  func(c byte) bool
		set  string
	}{
		{"Blank", chars.Blank, "\x20\x09"},
		{"Digit", chars.Digit, "0123456789"},
		{"Alpha", chars.Alpha, letters},
		{"Meta", chars.Meta, "\x20\x09\x0a|&;<>()"},
	} {
		for c := range 256 {
			want := slices.Contains([]byte(class.set), byte(c))
			if got := class.ask(byte(c)); got != want {
				t.Errorf("%s(%d) = %v, want %v", class.name, c, got, want)
			}
		}
	}
}

// P1.2: names, what stands beside the classes, and texts that are none.
func TestFront(t *testing.T) {
	for _, c := range []struct {
		s string
		n int
	}{
		{"", 0}, {"a", 1}, {"Z", 1}, {"_", 1}, {"__9", 3}, {"ab1-c", 3}, {"1a", 0}, {"0", 0},
		{"a b", 1}, {"x9", 2}, {"a=b", 1}, {"=a", 0}, {" a", 0}, {"a\n", 1}, {"a\x00b", 1}, {"\x00", 0},
		{"a@", 1}, {"a[", 1}, {"a`", 1}, {"a{", 1}, {"a/", 1}, {"a:", 1}, {"@a", 0}, {"[a", 0}, {"`a", 0}, {"{a", 0},
		{"a\xe1", 1}, {"\xe1a", 0}, {"a\xff", 1}, {"é", 0}, {"aé", 1},
		{"azAZ_09", 7}, {"azAZ_09 azAZ_09", 7},
		{strings.Repeat("a1_", 5000), 15000}, {strings.Repeat("a", 5000) + "-a", 5000},
	} {
		if n := chars.Front(c.s); n != c.n {
			t.Errorf("Front(%.20q) = %d, want %d", c.s, n, c.n)
		}
	}
}

// P1.2: a name is what has no byte that is refused, and does not begin with a digit.
func TestName(t *testing.T) {
	for _, s := range texts("aZ_09- \xe1", 4) {
		want := s != "" && !strings.ContainsAny(s[:1], "09") && strings.Trim(s, "aZ_09") == ""
		if got := chars.Name(s); got != want {
			t.Errorf("Name(%q) = %v, want %v", s, got, want)
		}
	}
}

// P1.3: numbers at most and above it, noughts ahead, and texts that are no numbers.
func TestNumber(t *testing.T) {
	noughts := strings.Repeat("0", 5000)
	for _, c := range []struct {
		s    string
		most int
		n    int
		e    api.Errno
	}{
		{"0", 0, 0, api.OK}, {"7", 7, 7, api.OK}, {"007", 9, 7, api.OK}, {"000", 0, 0, api.OK}, {"10", 10, 10, api.OK},
		{"10", 11, 10, api.OK}, {"109", 109, 109, api.OK}, {"4096", api.MaxText, 4096, api.OK},
		{noughts, 0, 0, api.OK}, {noughts + "12", 12, 12, api.OK},

		{"8", 7, 0, api.ErrBig}, {"1", 0, 0, api.ErrBig}, {"10", 9, 0, api.ErrBig}, {"010", 9, 0, api.ErrBig},
		{"110", 109, 0, api.ErrBig}, {"4097", api.MaxText, 0, api.ErrBig}, {noughts + "13", 12, 0, api.ErrBig},
		{"0", -1, 0, api.ErrBig}, {"1", -1, 0, api.ErrBig}, {"0", math.MinInt, 0, api.ErrBig}, {"5", -5, 0, api.ErrBig},
		{"9223372036854775808", math.MinInt, 0, api.ErrBig},

		{"9223372036854775807", math.MaxInt64, math.MaxInt64, api.OK},
		{"0009223372036854775807", math.MaxInt64, math.MaxInt64, api.OK},
		{"9223372036854775806", math.MaxInt64 - 1, math.MaxInt64 - 1, api.OK},
		{"9223372036854775807", math.MaxInt64 - 1, 0, api.ErrBig},
		{"9223372036854775808", math.MaxInt64, 0, api.ErrBig},
		{"9223372036854775810", math.MaxInt64, 0, api.ErrBig},
		{"18446744073709551616", math.MaxInt64, 0, api.ErrBig}, // 0, if it wrapped round
		{"18446744073709551623", math.MaxInt64, 0, api.ErrBig}, // 7, if it wrapped round
		{"99999999999999999999", math.MaxInt64, 0, api.ErrBig},
		{strings.Repeat("9", 5000), math.MaxInt64, 0, api.ErrBig},

		{"", 9, 0, api.ErrSyntax}, {"-1", 9, 0, api.ErrSyntax}, {"+1", 9, 0, api.ErrSyntax}, {"1a", 9, 0, api.ErrSyntax},
		{"a", 9, 0, api.ErrSyntax}, {" 1", 9, 0, api.ErrSyntax}, {"1 ", 9, 0, api.ErrSyntax}, {"1\n", 9, 0, api.ErrSyntax},
		{"1_0", 99, 0, api.ErrSyntax}, {"0x1", 99, 0, api.ErrSyntax}, {"1.5", 9, 0, api.ErrSyntax}, {"1/", 9, 0, api.ErrSyntax},
		{"1:", 9, 0, api.ErrSyntax}, {"\x00", 9, 0, api.ErrSyntax}, {"1\xe1", 9, 0, api.ErrSyntax}, {"٣", 9, 0, api.ErrSyntax},
		{"-", 9, 0, api.ErrSyntax},
	} {
		if n, e := chars.Number(c.s, c.most); n != c.n || e != c.e {
			t.Errorf("Number(%.30q, %d) = %d, %v, want %d, %v", c.s, c.most, n, e, c.n, c.e)
		}
	}
}

// P1.3 with R1: ErrSyntax is named first, also where the number is too great, or most is below 0.
func TestNumberFirstError(t *testing.T) {
	for _, c := range []struct {
		s    string
		most int
	}{
		{"", -1}, {"", math.MinInt}, {"-1", -1}, {"a", -1}, {"10a", 9}, {"99999999999999999999x", math.MaxInt},
		{strings.Repeat("9", 5000) + "-", 9},
	} {
		if n, e := chars.Number(c.s, c.most); n != 0 || e != api.ErrSyntax {
			t.Errorf("Number(%.30q, %d) = %d, %v, want 0, %v", c.s, c.most, n, e, api.ErrSyntax)
		}
	}
}

// P1.3: every number below a bound is held against every most.
func TestNumberAtMost(t *testing.T) {
	digits := "0123456789"
	for n := range 130 {
		s := digits[n/100:n/100+1] + digits[n/10%10:n/10%10+1] + digits[n%10:n%10+1]
		for most := -2; most < 130; most++ {
			want, wantErr := n, api.OK
			if n > most {
				want, wantErr = 0, api.ErrBig
			}
			if got, e := chars.Number(s, most); got != want || e != wantErr {
				t.Errorf("Number(%q, %d) = %d, %v, want %d, %v", s, most, got, e, want, wantErr)
			}
		}
	}
}

// P1.3: the least and the greatest int among others.
func TestText(t *testing.T) {
	for n, s := range map[int]string{
		0: "0", 7: "7", -7: "-7", 10: "10", -120: "-120", 1000: "1000",
		math.MaxInt64: "9223372036854775807", math.MinInt64: "-9223372036854775808", math.MinInt64 + 1: "-9223372036854775807",
	} {
		if got := chars.Text(n); got != s {
			t.Errorf("Text(%d) = %q, want %q", n, got, s)
		}
	}
}

// P1.4: what is quoted, and back.
func TestQuote(t *testing.T) {
	for s, q := range map[string]string{
		"":                              `''`,
		"a":                             `'a'`,
		"a b":                           `'a b'`,
		"it's":                          `'it'\''s'`,
		"'":                             `''\'''`,
		"''":                            `''\'''\'''`,
		"'a'":                           `''\''a'\'''`,
		`\`:                             `'\'`,
		`\'`:                            `'\'\'''`,
		`'\''`:                          `''\''\'\'''\'''`,
		`"$x"`:                          `'"$x"'`,
		"\n\x00\xe1\xff":                "'\n\x00\xe1\xff'",
		"`" + strings.Repeat("'", 1000): "'`" + strings.Repeat(`'\''`, 1000) + "'",
	} {
		if got := chars.Quote(s); got != q {
			t.Errorf("Quote(%.30q) = %.60q, want %.60q", s, got, q)
		}
		if got, e := chars.Unquote(q); got != s || e != api.OK {
			t.Errorf("Unquote(%.60q) = %.30q, %v, want %.30q, OK", q, got, e, s)
		}
	}
}

// P1.4: texts that are no text's Quote.
func TestUnquoteRefuses(t *testing.T) {
	for _, q := range []string{
		"", "'", "a", "'a", "a'", "''a", "a''", "'a'b'", "'a''b'", "'''", "''''", `'''''`, `\''`, `''\'`, `'\''`, `''\''`,
		`''\'''\''`, `''\''\'''`, `'\'''`, `"a"`, "`a`", " 'a'", "'a' ", "'a'\n", `'a'\\''b'`, `'a'\'b'`, `'a\''b'`, `'a'"'"'b'`,
	} {
		if s, e := chars.Unquote(q); s != "" || e != api.ErrQuote {
			t.Errorf("Unquote(%q) = %q, %v, want nothing, %v", q, s, e, api.ErrQuote)
		}
	}
}

// P1.4 and P1.5: of all short texts exactly those are unquoted that are some text's Quote, and to it alone.
func TestUnquoteIsTheInverse(t *testing.T) {
	const alphabet, most = `'\a`, 10
	by := map[string]string{}
	for _, s := range texts(alphabet, most-2) {
		q := chars.Quote(s)
		if other, twice := by[q]; twice {
			t.Errorf("Quote(%q) and Quote(%q) are both %q", other, s, q)
		}
		by[q] = s
	}
	for _, q := range texts(alphabet, most) {
		want, wantErr := by[q], api.OK
		if _, ok := by[q]; !ok {
			wantErr = api.ErrQuote
		}
		if s, e := chars.Unquote(q); s != want || e != wantErr {
			t.Errorf("Unquote(%q) = %q, %v, want %q, %v", q, s, e, want, wantErr)
		}
	}
}

// P1.5: what is quoted is unquoted, whatever bytes it is of.
func TestThroughQuotes(t *testing.T) {
	all := make([]byte, 256)
	for i := range all {
		all[i] = byte(i)
	}
	long := strings.Repeat(string(all)+`'\''`, 100)
	for _, s := range append(texts("'\\\n\xe1 ", 5), string(all), long) {
		if u, e := chars.Unquote(chars.Quote(s)); u != s || e != api.OK {
			t.Errorf("Unquote(Quote(%.60q)) = %.60q, %v", s, u, e)
		}
	}
}

// P1.5: Number of Text(n) is n from 0 to most; below 0 the text has a byte that is no digit.
func TestNumberOfText(t *testing.T) {
	for _, n := range []int{0, 1, 9, 10, 99, 100, 4096, math.MaxInt32, math.MaxInt - 1, math.MaxInt} {
		for _, most := range []int{n, n + (math.MaxInt-n)/2, math.MaxInt} {
			if got, e := chars.Number(chars.Text(n), most); got != n || e != api.OK {
				t.Errorf("Number(Text(%d), %d) = %d, %v", n, most, got, e)
			}
		}
		if got, e := chars.Number(chars.Text(n), n-1); got != 0 || e != api.ErrBig {
			t.Errorf("Number(Text(%d), %d) = %d, %v, want 0, %v", n, n-1, got, e, api.ErrBig)
		}
	}
	for _, n := range []int{-1, -120, math.MinInt} {
		if got, e := chars.Number(chars.Text(n), math.MaxInt); got != 0 || e != api.ErrSyntax {
			t.Errorf("Number(Text(%d), greatest) = %d, %v, want 0, %v", n, got, e, api.ErrSyntax)
		}
	}
}

// P1.4: texts joined, none of them and empty ones among them.
func TestJoin(t *testing.T) {
	for _, c := range []struct {
		by   string
		l    []string
		want string
	}{
		{"x", nil, ""}, {"x", []string{}, ""}, {"", nil, ""}, {"x", []string{""}, ""}, {"x", []string{"a"}, "a"},
		{"x", []string{"", ""}, "x"}, {"/", []string{"a", "", "b"}, "a//b"}, {"", []string{"a", "b"}, "ab"},
		{", ", []string{"a", "b", "c"}, "a, b, c"}, {"-", []string{"", "a", ""}, "-a-"}, {"\x00\xff", []string{"\xe1", "\n"}, "\xe1\x00\xff\n"},
	} {
		if got := chars.Join(c.by, c.l...); got != c.want {
			t.Errorf("Join(%q, %q) = %q, want %q", c.by, c.l, got, c.want)
		}
	}
	if got := chars.Join("x"); got != "" {
		t.Errorf("Join of no texts = %q, want nothing", got)
	}
}

// R2: neither the list that is handed in is written into, nor what stands behind its length.
func TestJoinLeavesItsList(t *testing.T) {
	list := []string{"a", "b", "c", "d"}
	if got := chars.Join("+", list[1:3]...); got != "b+c" {
		t.Errorf("Join of a piece = %q", got)
	}
	if !slices.Equal(list, []string{"a", "b", "c", "d"}) {
		t.Errorf("Join has changed its list: %q", list)
	}
}

// The errors' numbers and words that the document gives for this layer.
func TestErrorNumbers(t *testing.T) {
	_, big := chars.Number("1", 0)
	_, syntax := chars.Number("", 0)
	_, quote := chars.Unquote("")
	_, ok := chars.Unquote("''")
	for _, c := range []struct {
		e    api.Errno
		n    int
		word string
	}{{ok, 0, "error 0"}, {big, 3, "error 3"}, {syntax, 10, "error 10"}, {quote, 11, "error 11"}} {
		if int(c.e) != c.n || c.e.Error() != c.word {
			t.Errorf("error %d %q, want %d %q", int(c.e), c.e.Error(), c.n, c.word)
		}
	}
}
