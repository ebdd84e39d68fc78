// Package chars is layer 1: what bytes are to the shell, names, numbers, and texts in quotes.
// Its promises are P1.1 to P1.5 of shared/doc/01-chars.md.
package chars

import (
	"strconv"
	"strings"

	"conch/api"
)

// mark stands on both sides of a text in quotes.
const mark = "'"

// inner is what a mark within a text in quotes becomes: quotes know no escape,
// so they end ahead of it, and begin anew behind it.
const inner = `'\''`

// Blank tells whether c parts words, but not lines (P1.1).
func Blank(c byte) bool { return among(" \t")(c) }

// Digit tells whether c is a decimal digit (P1.1).
func Digit(c byte) bool { return '0' <= c && c <= '9' }

// Alpha tells whether a name may begin with c (P1.1).
func Alpha(c byte) bool {
	return 'a' <= c && c <= 'z' || 'A' <= c && c <= 'Z' || c == '_'
}

// Meta tells whether c ends a word that is not quoted (P1.1).
func Meta(c byte) bool { return Blank(c) || among("\n|&;<>()")(c) }

// among makes the class of the bytes of a text.
func among(set string) func(c byte) bool {
	return func(c byte) bool { return strings.IndexByte(set, c) >= 0 }
}

// span is how many bytes at the front of s are of a class, one behind the other.
func span(s string, class func(c byte) bool) int {
	for i := range len(s) {
		if !class(s[i]) {
			return i
		}
	}
	return len(s)
}

// Name tells whether s is a name (P1.2).
func Name(s string) bool { return s != "" && Front(s) == len(s) }

// Front is how many bytes a name has at the front of s; 0: there is none (P1.2).
func Front(s string) int {
	if s == "" || !Alpha(s[0]) {
		return 0
	}
	return span(s, func(c byte) bool { return Alpha(c) || Digit(c) })
}

// Number is the number that the digits of s are, most at the most (P1.3).
func Number(s string, most int) (int, api.Errno) {
	// The whole of s is looked at first: a byte that is no digit counts for more than a number that is too great.
	if s == "" || span(s, Digit) < len(s) {
		return 0, api.ErrSyntax
	}
	n := 0
	for i := range len(s) {
		d := int(s[i] - '0')
		// Asked ahead of the sum, which would wrap round where most is the greatest int; a most below 0 is below each digit.
		if d > most || n > (most-d)/10 {
			return 0, api.ErrBig
		}
		n = 10*n + d
	}
	return n, api.OK
}

// Text is n in decimal digits (P1.3).
func Text(n int) string { return strconv.Itoa(n) }

// Quote is s in quotes (P1.4).
func Quote(s string) string { return mark + strings.ReplaceAll(s, mark, inner) + mark }

// Unquote is the text whose Quote q is (P1.4).
func Unquote(q string) (string, api.Errno) {
	body := strings.TrimSuffix(strings.TrimPrefix(q, mark), mark)
	s := strings.ReplaceAll(body, inner, mark)
	// A mark that stands alone in q, or is missing at an end, is only told by quoting again.
	if Quote(s) != q {
		return "", api.ErrQuote
	}
	return s, api.OK
}

// Join is the texts of l, one behind the other, by between each two (P1.4).
func Join(by string, l ...string) string { return strings.Join(l, by) }
