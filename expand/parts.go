package expand

import (
	"conch/api"
	"conch/arith"
	"conch/chars"
	"conch/split"
	"conch/word"
)

// pieces is what parts came to so far. Words within words add to one list, so that those deep within are not copied again and again.
type pieces []split.Piece

// text adds a piece of a text that p came to.
func (l *pieces) text(p api.Part, s string) {
	*l = append(*l, split.Piece{Text: s, Quote: p.Quote, Split: !p.Quote})
}

// texts adds a piece of each text that p came to, with borders between them.
func (l *pieces) texts(p api.Part, texts ...string) {
	for i, s := range texts {
		if i > 0 {
			*l = append(*l, split.Piece{Break: true})
		}
		l.text(p, s)
	}
}

// literal adds a Lit's bytes; loose says whether they may be parted.
func (l *pieces) literal(p api.Part, loose bool) {
	*l = append(*l, split.Piece{Text: p.Text, Quote: p.Quote, Split: loose && !p.Quote})
}

// word adds what w's parts come to; loose says whether its Lits may be parted.
func (x *expansion) word(l *pieces, w api.Word, loose bool) bool {
	for _, p := range w {
		if !x.part(l, p, loose) {
			return false
		}
	}
	return true
}

// part adds what one part comes to.
func (x *expansion) part(l *pieces, p api.Part, loose bool) bool {
	switch p.Kind {
	case api.Lit:
		l.literal(p, loose)
	case api.Run:
		s, on := x.answer(p.Text)
		if !on {
			return false
		}
		l.text(p, s)
	case api.Sum:
		n, on := x.sum(p.Text)
		if !on {
			return false
		}
		l.text(p, chars.Text(n))
	case api.Var:
		return x.operation(l, p)()
	}
	return true
}

// sum works an expression out, and sets what it sets.
func (x *expansion) sum(expression string) (int, bool) {
	w, e := word.Here(expression)
	if e != api.OK {
		return 0, x.fail(e)
	}
	text, on := x.one(w)
	if !on {
		return 0, false
	}
	n, sets, e := arith.Eval(text.Text, x.pairs())
	if e != api.OK {
		return 0, x.fail(e)
	}
	for _, s := range sets {
		if e := x.vars.Set(s.Name, s.Value); e != api.OK {
			return 0, x.fail(e)
		}
	}
	return n, true
}

// pairs is the variables that are set, as an expression asks for them.
func (x *expansion) pairs() []arith.Pair {
	var l []arith.Pair
	for _, v := range x.vars.All() {
		if v.Set {
			l = append(l, arith.Pair{Name: v.Name, Value: v.Value})
		}
	}
	return l
}
