package split_test

import (
	"slices"
	"strings"
	"testing"

	"conch/split"
)

// each calls do with each list of a few pieces of all kinds, with some ifs.
func each(do func(l []split.Piece, ifs string)) {
	pieces := list(border, quote(""), quote(" ,a"), split.Piece{Text: ", ", Quote: true, Split: true}, plain(""), plain("b ,"), open(""), open("a"), open(" a"), open("a,"))
	lists(pieces, 4, func(l []split.Piece) {
		for _, ifs := range []string{"", " ", ",", " ,", "a"} {
			do(l, ifs)
		}
	})
}

// bordered tells whether there is a border, or a byte of ifs in a Split piece.
func bordered(l []split.Piece, ifs string) bool {
	return slices.ContainsFunc(l, func(p split.Piece) bool {
		return p.Break || p.Split && !p.Quote && strings.ContainsAny(p.Text, ifs)
	})
}

// some tells whether there are bytes, or something quoted.
func some(l []split.Piece) bool {
	return slices.ContainsFunc(l, func(p split.Piece) bool { return p.Quote || p.Text != "" })
}

// P9.3: without borders there is one field at most: One; there is none if nothing is quoted and there are no bytes.
func TestAtMostOne(t *testing.T) {
	seen := 0
	each(func(l []split.Piece, ifs string) {
		if bordered(l, ifs) {
			return
		}
		seen++
		if some(l) {
			wantFields(t, l, ifs, split.One(l))
		} else {
			wantFields(t, l, ifs)
		}
	})
	if seen == 0 {
		t.Error("no list without borders")
	}
}

// kept is the bytes of fields that are quoted.
func kept(l ...split.Field) string {
	var b []byte
	for _, f := range l {
		for i, q := range f.Quoted {
			if q {
				b = append(b, f.Text[i])
			}
		}
	}
	return string(b)
}

// P9.3: quoted bytes are all there, in order, and those of one piece in one field.
func TestQuotedStay(t *testing.T) {
	each(func(l []split.Piece, ifs string) {
		want := ""
		got := split.Fields(l, ifs)
		for _, p := range l {
			if !p.Quote || p.Break {
				continue
			}
			want += p.Text
			if !slices.ContainsFunc(got, func(f split.Field) bool { return strings.Contains(f.Text, p.Text) }) {
				t.Errorf("Fields(%#v, %q) = %s without %q", l, ifs, shown(got...), p.Text)
			}
		}
		if kept(got...) != want || kept(split.One(l)) != want {
			t.Errorf("Fields(%#v, %q) = %s, One is %s, want the quoted bytes %q", l, ifs, shown(got...), shown(split.One(l)), want)
		}
	})
}

// P9.3: with an empty ifs only borders part fields.
func TestEmptyIfs(t *testing.T) {
	wantFields(t, list(open("a b,c\t\n ")), "", field("a b,c\t\n "))
	wantFields(t, list(open(" ")), "", field(" "))
	wantFields(t, list(open("")), "")
	wantFields(t, list(open(" a "), border, open(" ")), "", fields(" a ", " ")...)
	each(func(l []split.Piece, _ string) {
		var want []split.Field
		for from, i := 0, 0; i <= len(l); i++ {
			if i == len(l) || l[i].Break {
				if some(l[from:i]) {
					want = append(want, split.One(l[from:i]))
				}
				from = i + 1
			}
		}
		wantFields(t, l, "", want...)
	})
}

// P9.1, P9.2: Quoted has as many bools as Text has bytes.
func TestAsLong(t *testing.T) {
	each(func(l []split.Piece, ifs string) {
		for _, f := range append(split.Fields(l, ifs), split.One(l)) {
			if len(f.Quoted) != len(f.Text) {
				t.Errorf("of %#v, %q a field has %d bytes and %d bools", l, ifs, len(f.Text), len(f.Quoted))
			}
		}
	})
}
