package split_test

import (
	"slices"
	"strconv"
	"strings"
	"testing"

	"conch/split"
)

// border is a piece that is one, and has nothing besides.
var border = split.Piece{Break: true}

// quote is a quoted piece.
func quote(s string) split.Piece { return split.Piece{Text: s, Quote: true} }

// open is a piece that is looked at for borders.
func open(s string) split.Piece { return split.Piece{Text: s, Split: true} }

// plain is a piece that is neither.
func plain(s string) split.Piece { return split.Piece{Text: s} }

// list is a list of pieces.
func list(l ...split.Piece) []split.Piece { return l }

// field makes a field of a text in short: a ^ stands behind each byte that is quoted.
func field(short string) split.Field {
	var text []byte
	var marks []bool
	for i := 0; i < len(short); i++ {
		text = append(text, short[i])
		quoted := i+1 < len(short) && short[i+1] == '^'
		marks = append(marks, quoted)
		if quoted {
			i++
		}
	}
	return split.Field{Text: string(text), Quoted: marks}
}

// fields makes a list of fields of texts in short.
func fields(shorts ...string) []split.Field {
	var l []split.Field
	for _, s := range shorts {
		l = append(l, field(s))
	}
	return l
}

// same tells whether two fields are one.
func same(a, b split.Field) bool { return a.Text == b.Text && slices.Equal(a.Quoted, b.Quoted) }

// shown is fields as a text that tells them apart.
func shown(l ...split.Field) string {
	var out strings.Builder
	for _, f := range l {
		out.WriteString(strconv.Quote(f.Text) + "[")
		for _, q := range f.Quoted {
			if q {
				out.WriteByte('^')
			} else {
				out.WriteByte('.')
			}
		}
		out.WriteString("] ")
	}
	return out.String()
}

// wantFields holds what Fields answers against fields.
func wantFields(t *testing.T, l []split.Piece, ifs string, want ...split.Field) {
	t.Helper()
	if got := split.Fields(l, ifs); !slices.EqualFunc(got, want, same) {
		t.Errorf("Fields(%#.60v, %.60q) = %.300s, want %.300s", l, ifs, shown(got...), shown(want...))
	}
}

// wantOne holds what One answers against a field.
func wantOne(t *testing.T, l []split.Piece, want split.Field) {
	t.Helper()
	if got := split.One(l); !same(got, want) {
		t.Errorf("One(%#.60v) = %.300s, want %.300s", l, shown(got), shown(want))
	}
}
