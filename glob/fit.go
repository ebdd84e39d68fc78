package glob

import "iter"

// room is how many bools are at hand without asking for memory: those of most words and names.
const room = 128

// beginnings makes the iterator over the lengths of the beginnings of s that l fits, the shortest one first.
func beginnings(l []Token, s string) iter.Seq[int] {
	return func(yield func(int) bool) {
		var here, there [room]bool
		now, next := here[:], there[:]
		if len(s) >= room {
			now, next = make([]bool, len(s)+1), make([]bool, len(s)+1)
		}
		now, next = now[:len(s)+1], next[:len(s)+1]
		now[0] = true
		for _, t := range l {
			t.step(s, now, next)
			copy(now, next)
		}
		for n, fits := range now {
			if fits && !yield(n) {
				return
			}
		}
	}
}

// step sets in next, given in now which beginnings of s the tokens ahead of t fit, which ones they fit with t.
func (t *Token) step(s string, now, next []bool) {
	if t.Kind == Many {
		some := false
		for n := range now {
			some = some || now[n]
			next[n] = some
		}
		return
	}
	next[0] = false
	for i := range len(s) {
		next[i+1] = now[i] && t.fits(s[i])
	}
}

// fits tells whether t fits the text of the one byte c; Many isn't asked.
func (t *Token) fits(c byte) bool {
	switch t.Kind {
	case Byte:
		return c == t.C
	case One:
		return true
	case Class:
		return t.holds(c) != t.Not
	}
	return false
}

// holds tells whether c lies in one of the ranges.
func (t *Token) holds(c byte) bool {
	for _, r := range t.Ranges {
		if r.From <= c && c <= r.To {
			return true
		}
	}
	return false
}
