package split_test

import (
	"math/rand"
	"regexp"
	"strings"
	"testing"

	"conch/split"
)

// signs writes pieces as one letter for each thing that happens, and the bytes beside it: B a border, Q a quoted piece's
// beginning, q a byte of one, p another byte that stays, s a soft byte, h a hard one.
func signs(l []split.Piece, ifs string) (string, string) {
	var what, bytes []byte
	add := func(sign, c byte) { what, bytes = append(what, sign), append(bytes, c) }
	for _, p := range l {
		switch {
		case p.Break:
			add('B', 0)
			continue
		case p.Quote:
			add('Q', 0)
		}
		for i := range len(p.Text) {
			c := p.Text[i]
			switch {
			case p.Quote:
				add('q', c)
			case !p.Split || strings.IndexByte(ifs, c) < 0:
				add('p', c)
			case c == 32 || c == 9 || c == 10:
				add('s', c)
			default:
				add('h', c)
			}
		}
	}
	return string(what), string(bytes)
}

// A field is what stays, with all that ends it (soft bytes take one hard byte along); or nothing, ended by a hard byte.
var fieldForm = regexp.MustCompile(`([Qqp]+)(?:B|h|s+h?|$)|()h|s|B`)

// oracle is what Fields is to answer, by the form of the signs.
func oracle(l []split.Piece, ifs string) []split.Field {
	what, bytes := signs(l, ifs)
	var out []split.Field
	for _, at := range fieldForm.FindAllStringSubmatchIndex(what, -1) {
		switch {
		case at[2] >= 0:
			f := split.Field{}
			for i := at[2]; i < at[3]; i++ {
				if what[i] != 'Q' {
					f.Text += bytes[i : i+1]
					f.Quoted = append(f.Quoted, what[i] == 'q')
				}
			}
			out = append(out, f)
		case at[4] >= 0:
			out = append(out, split.Field{})
		}
	}
	return out
}

// whole is what One is to answer: of pieces that are not looked at for borders, the signs that are bytes, and a blank for each border.
func whole(l []split.Piece) split.Field {
	what, bytes := signs(l, "")
	f := split.Field{}
	for i := range len(what) {
		switch what[i] {
		case 'B':
			f.Text, f.Quoted = f.Text+" ", append(f.Quoted, false)
		case 'p', 'q':
			f.Text, f.Quoted = f.Text+bytes[i:i+1], append(f.Quoted, what[i] == 'q')
		}
	}
	return f
}

// lists calls do with each list of at most n of the pieces. It must not keep it.
func lists(pieces []split.Piece, n int, do func([]split.Piece)) {
	var more func(l []split.Piece)
	more = func(l []split.Piece) {
		do(l)
		if len(l) == n {
			return
		}
		for _, p := range pieces {
			more(append(l, p))
		}
	}
	more(make([]split.Piece, 0, n))
}

// texts are all texts of at most n bytes of set.
func texts(set string, n int) []string {
	l := []string{""}
	for from := 0; n > 0; n-- {
		to := len(l)
		for _, s := range l[from:to] {
			for i := range len(set) {
				l = append(l, s+set[i:i+1])
			}
		}
		from = to
	}
	return l
}

// holds tells whether both calls answer as the oracles do, and stops the test if not.
func holds(t *testing.T, l []split.Piece, ifs string) {
	t.Helper()
	wantFields(t, l, ifs, oracle(l, ifs)...)
	wantOne(t, l, whole(l))
	if t.Failed() {
		t.FailNow()
	}
}

// P9.1: each text of a Split piece, of a letter, a soft byte and a hard one, of two kinds each.
func TestEachText(t *testing.T) {
	for _, s := range texts("a ,", 8) {
		holds(t, list(open(s)), " ,")
	}
	for _, s := range texts("a \n,;", 5) {
		for _, ifs := range []string{"", " ", ",", "\n;", " \n", ",;", "; ,\n", "\t"} {
			holds(t, list(open(s)), ifs)
		}
	}
}

// P9.1, P9.2: each list of a few pieces that are one thing each.
func TestEachList(t *testing.T) {
	pieces := list(border, quote(""), quote(" "), plain(""), plain(","), open(""), open("a"), open(" "), open(","))
	lists(pieces, 5, func(l []split.Piece) { holds(t, l, " ,") })
}

// P9.1, P9.2: each list of at most two pieces of all kinds, with each text.
func TestEachTwo(t *testing.T) {
	var pieces []split.Piece
	for _, s := range texts("a ,", 2) {
		for bits := range 8 {
			pieces = append(pieces, split.Piece{Text: s, Quote: bits&1 != 0, Split: bits&2 != 0, Break: bits&4 != 0})
		}
	}
	lists(pieces, 2, func(l []split.Piece) {
		for _, ifs := range []string{" ,", ", ,", " ", ",", ""} {
			holds(t, l, ifs)
		}
	})
}

// P9.1, P9.2: long lists of pieces of any kind and any bytes.
func TestManyLists(t *testing.T) {
	r := rand.New(rand.NewSource(9))
	some := func(set string, most int) string {
		b := make([]byte, r.Intn(most+1))
		for i := range b {
			b[i] = set[r.Intn(len(set))]
		}
		return string(b)
	}
	for _, set := range []string{"ab ,", "a \t\n,;", "\x00\x80\xff\xc3\xa9 \n", all()} {
		for range 4000 {
			ifs := some(set, 4)
			var l []split.Piece
			for range r.Intn(12) {
				l = append(l, split.Piece{Text: some(set, 6), Quote: r.Intn(4) == 0, Split: r.Intn(3) != 0, Break: r.Intn(6) == 0})
			}
			holds(t, l, ifs)
		}
	}
}
