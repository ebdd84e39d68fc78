package glob

import "iter"

// pattern is a text of whose bytes some are quoted.
type pattern struct {
	s      string
	quoted []bool
	// last is where the last byte stands that may end a class: a `[` that none ends is told by it at once,
	// so that a pattern of nothing but such bytes isn't gone through anew for each of them.
	last int
}

// tokens makes the iterator that cuts the tokens off a pattern, from the front on.
func tokens(s string, quoted []bool) iter.Seq[Token] {
	return func(yield func(Token) bool) {
		p := pattern{s: s, quoted: quoted, last: len(s) - 1}
		for p.last >= 0 && !p.plain(p.last, ']') {
			p.last--
		}
		for at := 0; at < len(s); {
			t, next := p.cut(at)
			if !yield(t) {
				return
			}
			at = next
		}
	}
}

// plain tells whether byte i is c, and not quoted.
func (p *pattern) plain(i int, c byte) bool {
	return i < len(p.s) && p.s[i] == c && (i >= len(p.quoted) || !p.quoted[i])
}

// cut is the token that begins at byte at, and where the next one does.
func (p *pattern) cut(at int) (Token, int) {
	switch {
	case p.plain(at, '?'):
		return Token{Kind: One}, at + 1
	case p.plain(at, '*'):
		return Token{Kind: Many}, at + 1
	case p.plain(at, '['):
		if t, next, ends := p.class(at + 1); ends {
			return t, next
		}
	}
	return Token{Kind: Byte, C: p.s[at]}, at + 1
}

// class is the class whose `[` stands ahead of byte at, where what is behind it begins, and whether it ends at all.
func (p *pattern) class(at int) (Token, int, bool) {
	not := p.plain(at, '!')
	if not {
		at++
	}
	// The first byte of a class doesn't end it, whichever it is.
	if p.last <= at {
		return Token{}, 0, false
	}
	end := at + 1
	for !p.plain(end, ']') {
		end++
	}
	return Token{Kind: Class, Not: not, Ranges: p.ranges(at, end)}, end + 1, true
}

// ranges are those of the bytes of a class, from byte at to ahead of byte end.
func (p *pattern) ranges(at, end int) []Range {
	var l []Range
	for at < end {
		to := at
		if at+2 < end && p.plain(at+1, '-') {
			to = at + 2
		}
		l = append(l, Range{From: p.s[at], To: p.s[to]})
		at = to + 1
	}
	return l
}
