package split_test

import (
	"strings"
	"testing"

	"conch/split"
)

// P9.1: a Split piece of its own, with a blank and a comma in ifs; the document's examples come first.
func TestText(t *testing.T) {
	for _, c := range []struct {
		text string
		want []string
	}{
		{"a , b", []string{"a", "b"}}, {",a", []string{"", "a"}}, {"a,,b,", []string{"a", "", "b"}}, {"  a  ", []string{"a"}}, {" ,a", []string{"", "a"}},
		{"", nil}, {"a", []string{"a"}}, {"abc", []string{"abc"}},
		{" ", nil}, {"   ", nil}, {" a", []string{"a"}}, {"a ", []string{"a"}}, {"a b", []string{"a", "b"}}, {"a   b", []string{"a", "b"}}, {" a b ", []string{"a", "b"}},
		{",", []string{""}}, {",,", []string{"", ""}}, {",,,", []string{"", "", ""}}, {"a,", []string{"a"}}, {"a,b", []string{"a", "b"}}, {"a,,", []string{"a", ""}}, {",a,", []string{"", "a"}},
		{" ,", []string{""}}, {", ", []string{""}}, {" , ", []string{""}}, {",,a", []string{"", "", "a"}}, {", ,", []string{"", ""}}, {" , , ", []string{"", ""}},
		{"a ,", []string{"a"}}, {"a, ", []string{"a"}}, {"a , ", []string{"a"}}, {"a ,b", []string{"a", "b"}}, {"a, b", []string{"a", "b"}}, {"a  ,  b", []string{"a", "b"}},
		{"a ,,b", []string{"a", "", "b"}}, {"a , ,b", []string{"a", "", "b"}}, {"a, ,b", []string{"a", "", "b"}}, {"a,, b", []string{"a", "", "b"}}, {"a ,,, b", []string{"a", "", "", "b"}},
		{"a , b , c", []string{"a", "b", "c"}}, {"a b,c ,d, e", []string{"a", "b", "c", "d", "e"}}, {", a", []string{"", "a"}}, {", , a", []string{"", "", "a"}},
		{"a\tb\nc", []string{"a\tb\nc"}}, {"a;b:c", []string{"a;b:c"}},
	} {
		wantFields(t, list(open(c.text)), " ,", fields(c.want...)...)
	}
}

// P9.1: soft bytes of two and three kinds, in a row and around a hard one.
func TestSoftKinds(t *testing.T) {
	for _, c := range []struct {
		text, ifs string
		want      []string
	}{
		{"a \tb", " \t", []string{"a", "b"}}, {"a\t b", " \t", []string{"a", "b"}}, {" \t a\t", " \t", []string{"a"}}, {" \t\n", " \t\n", nil},
		{"a \t\n b\n\nc", " \t\n", []string{"a", "b", "c"}}, {"a \t\n b", " ", []string{"a", "\t\n", "b"}}, {"a \t\n b", "\t", []string{"a ", "\n b"}}, {"a \t\n b", "\n", []string{"a \t", " b"}},
		{"a\t,\nb", " \t\n,", []string{"a", "b"}}, {"a \t, \nb", " \t\n,", []string{"a", "b"}}, {"a\t,\nb", "\t,", []string{"a", "\nb"}}, {"a\t, ,b", " \t,", []string{"a", "", "b"}}, {"a, ,b", "\t,", []string{"a", " ", "b"}},
		{"a,;b", ",;", []string{"a", "", "b"}}, {"a ,;b", ",; ", []string{"a", "", "b"}}, {"a,;b", ";", []string{"a,", "b"}},
	} {
		wantFields(t, list(open(c.text)), c.ifs, fields(c.want...)...)
	}
}

// P9.1: a border first, last, twice, alone, and one that has all else besides.
func TestBorders(t *testing.T) {
	for _, b := range []split.Piece{
		border, {Break: true, Text: "x"}, {Break: true, Quote: true}, {Break: true, Split: true}, {Break: true, Text: "x", Quote: true},
		{Break: true, Text: ",x , y", Split: true}, {Break: true, Text: ",", Quote: true, Split: true},
	} {
		wantFields(t, list(b), " ,")
		wantFields(t, list(b, b, b), " ,")
		wantFields(t, list(b, plain("a")), " ,", fields("a")...)
		wantFields(t, list(plain("a"), b), " ,", fields("a")...)
		wantFields(t, list(quote("a"), b, b, open("b")), " ,", fields("a^", "b")...)
		wantFields(t, list(b, quote(""), b, quote(""), b), " ,", fields("", "")...)
		wantFields(t, list(plain(""), b, open(""), b), " ,")
		wantFields(t, list(open("a b"), b, open("c d"), b, plain("e f")), " ,", fields("a", "b", "c", "d", "e f")...)
		wantFields(t, list(open("a,"), b, open(",b")), " ,", fields("a", "", "b")...)
		wantFields(t, list(plain("a"), b, plain("b")), "", fields("a", "b")...)
	}
}

// P9.1: quoted pieces, with bytes and without, also with Split.
func TestQuoted(t *testing.T) {
	for _, both := range []bool{false, true} {
		q := func(s string) split.Piece { return split.Piece{Text: s, Quote: true, Split: both} }
		wantFields(t, list(q("")), " ,", field(""))
		wantFields(t, list(q(""), q("")), " ,", field(""))
		wantFields(t, list(q("a")), " ,", field("a^"))
		wantFields(t, list(q(" ,a, ")), " ,", field(" ^,^a^,^ ^"))
		wantFields(t, list(q(" ")), " ,", field(" ^"))
		wantFields(t, list(q("a"), q("b")), " ,", field("a^b^"))
		wantFields(t, list(open("a "), q("b")), " ,", fields("a", "b^")...)
		wantFields(t, list(open("a"), q(" b ")), " ,", field("a ^b^ ^"))
		wantFields(t, list(q("a"), open(" b")), " ,", fields("a^", "b")...)
		wantFields(t, list(q(""), open(" b")), " ,", fields("", "b")...)
		wantFields(t, list(q(""), open(",b")), " ,", fields("", "b")...)
		wantFields(t, list(open("a,"), q("")), " ,", fields("a", "")...)
		wantFields(t, list(open("a "), q("")), " ,", fields("a", "")...)
		wantFields(t, list(open("a"), q(""), open("b")), " ,", field("ab"))
		wantFields(t, list(open(" "), q(""), open(" "), q(""), open(" ")), " ,", fields("", "")...)
		wantFields(t, list(plain("a"), q("*"), plain("b")), " ,", field("a*^b"))
	}
}

// P9.1: pieces that are neither quoted nor Split.
func TestPlain(t *testing.T) {
	for _, c := range []struct {
		l    []split.Piece
		want []string
	}{
		{nil, nil}, {list(), nil}, {list(plain("")), nil}, {list(plain(""), plain("")), nil}, {list(plain(""), open("")), nil},
		{list(plain("a b")), []string{"a b"}}, {list(plain(" , ")), []string{" , "}}, {list(plain("a"), plain(""), plain("b")), []string{"ab"}},
		{list(open(" a"), plain("b "), open("c d")), []string{"ab c", "d"}}, {list(plain(" "), open(" "), plain(",")), []string{" ", ","}},
		{list(plain("a"), open(",")), []string{"a"}}, {list(plain("a"), open(",,")), []string{"a", ""}}, {list(plain(""), open(",")), []string{""}},
		{list(open("a"), open("b")), []string{"ab"}}, {list(open("a "), open(" b")), []string{"a", "b"}}, {list(open("a"), open(""), open(" b")), []string{"a", "b"}},
	} {
		wantFields(t, c.l, " ,", fields(c.want...)...)
	}
}

// P9.1: what stands between a soft byte and a hard one keeps the mark or puts it off.
func TestMark(t *testing.T) {
	for _, c := range []struct {
		between []split.Piece
		want    []string
	}{
		{nil, []string{"a", "b"}},
		{list(open("")), []string{"a", "b"}}, {list(plain("")), []string{"a", "b"}}, {list(plain(""), open(""), plain("")), []string{"a", "b"}},
		{list(open(" ")), []string{"a", "b"}}, {list(open("  "), plain(""), open(" ")), []string{"a", "b"}},
		{list(border), []string{"a", "", "b"}}, {list(border, border), []string{"a", "", "b"}}, {list(border, open(" ")), []string{"a", "", "b"}}, {list(open(" "), border), []string{"a", "", "b"}},
		{list(open(",")), []string{"a", "", "b"}}, {list(open(", ")), []string{"a", "", "b"}}, {list(open(" ,")), []string{"a", "", "b"}}, {list(open(",,")), []string{"a", "", "", "b"}},
		{list(quote("")), []string{"a", "", "b"}}, {list(quote("x")), []string{"a", "x^", "b"}}, {list(quote(""), open(" ")), []string{"a", "", "b"}}, {list(quote(""), border), []string{"a", "", "", "b"}},
		{list(plain("x")), []string{"a", "x", "b"}}, {list(open("x")), []string{"a", "x", "b"}}, {list(open("x "), plain("")), []string{"a", "x", "b"}}, {list(plain("x"), border), []string{"a", "x", "", "b"}},
	} {
		l := append(list(open("a ")), c.between...)
		wantFields(t, append(l, open(",b")), " ,", fields(c.want...)...)
	}
}

// P9.1: without a field that a soft byte ended the mark is off.
func TestNoMark(t *testing.T) {
	for _, l := range [][]split.Piece{
		list(open(" ,b")), list(open(" "), open(",b")), list(border, open(" ,b")), list(open("  "), plain(""), open(" ,b")), list(open(",b")),
	} {
		wantFields(t, l, " ,", fields("", "b")...)
	}
	wantFields(t, list(plain("a"), border, open(" ,b")), " ,", fields("a", "", "b")...)
	wantFields(t, list(open("a, ,b")), " ,", fields("a", "", "b")...)
}

// P9.2: pieces of each kind in one field.
func TestOne(t *testing.T) {
	for _, c := range []struct {
		l    []split.Piece
		want string
	}{
		{nil, ""}, {list(), ""}, {list(plain("")), ""}, {list(quote("")), ""}, {list(open("")), ""},
		{list(plain("a b")), "a b"}, {list(quote("a b")), "a^ ^b^"}, {list(open(" a,b ")), " a,b "},
		{list(border), " "}, {list(border, border), "  "}, {list(border, plain("a"), border), " a "}, {list(quote("a"), border, quote("b")), "a^ b^"},
		{list(open("a "), quote("b")), "a b^"}, {list(plain("a"), quote("b"), open("c"), quote("d")), "ab^cd^"}, {list(quote("a"), quote(""), quote("b")), "a^b^"},
		{list(split.Piece{Text: "a ", Quote: true, Split: true}), "a^ ^"},
		{list(split.Piece{Text: "xyz", Break: true}), " "}, {list(split.Piece{Text: "x", Quote: true, Break: true}), " "}, {list(split.Piece{Quote: true, Split: true, Break: true}), " "},
		{list(split.Piece{Text: "x", Quote: true, Split: true, Break: true}, plain("y")), " y"}, {list(split.Piece{Text: ",", Split: true, Break: true}), " "},
		{list(open("\x00\xff"), border, quote("\x80")), "\x00\xff \x80^"},
	} {
		wantOne(t, c.l, field(c.want))
	}
}

// P9.1, P9.2: very long texts, and very many pieces and fields.
func TestMuch(t *testing.T) {
	const n = 300000
	long := strings.Repeat("a", n)
	wantFields(t, list(open(long), plain(long), open(strings.Repeat(" ", n)), open(long)), " ,", field(long+long), field(long))
	wantOne(t, list(open(long), border, plain(long)), field(long+" "+long))
	var l []split.Piece
	for range n {
		l = append(l, open("b"), border, quote(","))
	}
	got := split.Fields(l, ",")
	if len(got) != n+1 || !same(got[0], field("b")) || !same(got[1], field(",^b")) || !same(got[n], field(",^")) {
		t.Errorf("%d fields of many pieces", len(got))
	}
	if f := split.One(l); len(f.Text) != 3*n || len(f.Quoted) != 3*n || f.Text[3*n-3:] != "b ," || !f.Quoted[3*n-1] || f.Quoted[3*n-2] {
		t.Errorf("One of many pieces has %d bytes", len(f.Text))
	}
	if got := split.Fields(list(open(strings.Repeat(",", n))), ","); len(got) != n || !same(got[n-1], field("")) {
		t.Errorf("%d fields of hard bytes alone", len(got))
	}
}
