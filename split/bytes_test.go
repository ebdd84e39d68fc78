package split_test

import (
	"strings"
	"testing"

	"conch/split"
)

// all is each byte once.
func all() string {
	var b [256]byte
	for c := range b {
		b[c] = byte(c)
	}
	return string(b[:])
}

// unquoted is a field of a text, no byte of which is quoted.
func unquoted(s string) split.Field { return split.Field{Text: s, Quoted: make([]bool, len(s))} }

// P9.1: 32, 9 and 10 are soft and all others hard, if they are in ifs, and else neither.
func TestEachByte(t *testing.T) {
	for c := range 256 {
		b := string([]byte{byte(c)})
		x, y := unquoted("x"), unquoted("y")
		if b == "x" || b == "y" {
			x, y = unquoted("1"), unquoted("2")
		}
		l := list(open(b + x.Text + b + b + y.Text + b))
		for _, ifs := range []string{b, b + b, b + ":" + b, ":" + b, b + "\xc3", " \t\n" + b} {
			if c == 32 || c == 9 || c == 10 {
				wantFields(t, l, ifs, x, y)
			} else {
				wantFields(t, l, ifs, unquoted(""), x, unquoted(""), y)
			}
		}
		others := all()[:c] + all()[c+1:]
		wantFields(t, list(open(b+b)), others, unquoted(b+b))
		wantFields(t, l, "", unquoted(l[0].Text))
	}
}

// P9.1: bytes of ifs of each kind in one text, each one seen by itself.
func TestEachPair(t *testing.T) {
	for c := range 256 {
		for d := range 256 {
			text := string([]byte{'a', byte(c), byte(d), 'b'})
			if strings.ContainsAny(text[1:3], "ab") {
				continue
			}
			want := fields("a", "", "b")
			if strings.Contains(" \t\n", text[1:2]) || strings.Contains(" \t\n", text[2:3]) {
				want = fields("a", "b")
			}
			wantFields(t, list(open(text)), text[1:3], want...)
		}
	}
}

// P9.1: bytes are not runes: those of one that is written with several count one by one.
func TestRunes(t *testing.T) {
	// é is the bytes c3 a9, ä is c3 a4, and ☃ is e2 98 83.
	wantFields(t, list(open("aéb")), "é", unquoted("a"), unquoted(""), unquoted("b"))
	wantFields(t, list(open("aäb")), "é", unquoted("a"), unquoted("\xa4b"))
	wantFields(t, list(open("a☃b")), "\x98", unquoted("a\xe2"), unquoted("\x83b"))
	wantFields(t, list(open("a☃b")), "é", unquoted("a☃b"))
	wantFields(t, list(open("a\xffb\xfe")), "\xff", unquoted("a"), unquoted("b\xfe"))
	wantFields(t, list(open("a\xffb")), "\uFFFD", unquoted("a\xffb"))
	wantFields(t, list(open("a\u00a0b\u2003c\u0085")), " \t\n", unquoted("a\u00a0b\u2003c\u0085"))
	wantFields(t, list(quote("é"), open("\xc3x")), "\xc3", field("\xc3^\xa9^"), field("x"))
	wantFields(t, list(open("\x00a\x00\x00b")), "\x00", fields("", "a", "", "b")...)
	wantFields(t, list(open("\x00a\x00\x00b"), quote("\x00")), " ", field("\x00a\x00\x00b\x00^"))
	wantOne(t, list(open("é"), quote("ä"), border, plain("\xff")), field("\xc3\xa9\xc3^\xa4^ \xff"))
}

// P9.1: all bytes in one text are kept, but those that are borders.
func TestAllBytes(t *testing.T) {
	wantFields(t, list(plain(all())), all(), unquoted(all()))
	wantFields(t, list(open(all())), "", unquoted(all()))
	q := split.Field{Text: all(), Quoted: make([]bool, 256)}
	for i := range q.Quoted {
		q.Quoted[i] = true
	}
	wantFields(t, list(quote(all())), all(), q)
	wantOne(t, list(quote(all())), q)
	wantFields(t, list(open(all())), " \t\n", unquoted(all()[:9]), unquoted(all()[11:32]), unquoted(all()[33:]))
	hard := make([]split.Field, 253)
	wantFields(t, list(open(all())), all(), hard...)
}
