package split_test

import (
	"slices"
	"testing"

	"conch/split"
)

// several makes a list of pieces of all kinds, with others behind its length, and says what is to come of it.
func several() (l []split.Piece, want []split.Field, one split.Field) {
	l = list(open("a b"), quote(" "), border, plain("cd"), open(",,"), quote(""), split.Piece{Text: "x", Break: true}, open("e "), quote("f"), plain("behind"), quote("behind"))
	return l[:9], fields("a", "b ^", "cd", "", "", "e", "f^"), field("a b ^ cd,, e f^")
}

// R2: the pieces stay as they are, also those behind the list's length.
func TestHandedIn(t *testing.T) {
	l, want, one := several()
	before := slices.Clone(l[:cap(l)])
	wantFields(t, l, " ,", want...)
	wantOne(t, l, one)
	if !slices.Equal(l[:cap(l)], before) {
		t.Errorf("the pieces are %#v, and were %#v", l[:cap(l)], before)
	}
}

// R2: what is written into the pieces afterwards turns no answer.
func TestWriteIntoPieces(t *testing.T) {
	l, want, one := several()
	got, whole := split.Fields(l, " ,"), split.One(l)
	for i := range l {
		l[i] = split.Piece{Text: "zzz", Quote: !l[i].Quote}
	}
	if !slices.EqualFunc(got, want, same) || !same(whole, one) {
		t.Errorf("the answers are turned: %s, %s", shown(got...), shown(whole))
	}
}

// scribble writes into a list of bools, and behind it as far as its memory goes.
func scribble(l []bool) {
	l = l[:cap(l)]
	for i := range l {
		l[i] = !l[i]
	}
}

// R2: what is written into one answer, and behind it, turns neither the pieces nor another answer, nor another field.
func TestWriteIntoAnswers(t *testing.T) {
	l, want, one := several()
	before := slices.Clone(l[:cap(l)])
	first, second, whole := split.Fields(l, " ,"), split.Fields(l, " ,"), split.One(l)
	for i := range first {
		scribble(first[i].Quoted)
		first[i].Text = "turned"
		if !slices.EqualFunc(first[i+1:], want[i+1:], same) {
			t.Errorf("the fields behind field %d are turned: %s", i, shown(first[i+1:]...))
		}
	}
	if !slices.EqualFunc(second, want, same) || !same(whole, one) {
		t.Errorf("the other answers are turned: %s, %s", shown(second...), shown(whole))
	}
	scribble(whole.Quoted)
	scribbled := second[:cap(second)]
	for i := range scribbled {
		scribbled[i] = split.Field{Text: "turned"}
	}
	if !slices.Equal(l[:cap(l)], before) {
		t.Errorf("the pieces are turned: %#v", l[:cap(l)])
	}
	wantFields(t, l, " ,", want...)
	wantOne(t, l, one)
}

// R2: a field that is written behind does not run into the one behind it, nor into one ahead of it.
func TestAppendToAnswers(t *testing.T) {
	l := list(open("aaa bbb ccc"), quote("ddd"), open(" eee"))
	want := fields("aaa", "bbb", "cccd^d^d^", "eee")
	got := split.Fields(l, " ")
	for i := range got {
		_ = append(got[i].Quoted, true, true, true, true, true, true, true, true)
		if !slices.EqualFunc(got, want, same) {
			t.Errorf("behind an append to field %d: %s", i, shown(got...))
		}
	}
}

// R3: a call answers as it did, whatever was called between.
func TestAgain(t *testing.T) {
	l, want, one := several()
	for _, ifs := range []string{"", "a", " \t\n", all(), ","} {
		split.Fields(l, ifs)
		split.Fields(list(open("q "), open("r ")), ifs)
		split.One(list(quote("q")))
		wantFields(t, l, " ,", want...)
		wantOne(t, l, one)
	}
}
