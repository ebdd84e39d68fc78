package arith_test

import "strings"

// writer makes expressions by a rule that always goes the same way.
type writer struct{ state uint64 }

// pick is a number from 0 to below n.
func (w *writer) pick(n int) int {
	w.state = w.state*6364136223846793005 + 1442695040888963407
	return int(w.state >> 33 % uint64(n))
}

// one is one of the texts.
func (w *writer) one(l ...string) string { return l[w.pick(len(l))] }

// tree is an expression, at most deep parts within one another.
func (w *writer) tree(deep int) *node {
	some := func(n int) []*node {
		l := make([]*node, n)
		for i := range l {
			l[i] = w.tree(deep - 1)
		}
		return l
	}
	kind := w.pick(12)
	switch {
	case deep == 0 || kind == 0:
		if w.pick(2) == 0 {
			return &node{op: "name", word: w.one("x", "y", "z", "big", "none", "x", "y", "x", "y", "x", "y", "x", "bad")}
		}
		return &node{op: "number", word: w.one("0", "1", "2", "7", "63", "0x1F", "010", "9223372036854775807")}
	case kind == 1:
		return &node{op: "set", word: w.one("x", "y", "z"), sign: w.one("", "+", "-", "*", "/", "%"), parts: some(1)}
	case kind == 2:
		return &node{op: "?", parts: some(3)}
	case kind == 3:
		return &node{op: "ahead " + w.one("+", "-", "!", "~"), parts: some(1)}
	}
	return &node{op: w.one(ranks[w.pick(len(ranks))]...), parts: some(2)}
}

// rankOf is how strong the expression binds, as the oracle counts.
func rankOf(n *node) int {
	switch {
	case n.op == "set":
		return 0
	case n.op == "?":
		return 1
	case strings.HasPrefix(n.op, "ahead "):
		return len(ranks) + 2
	case len(n.parts) == 0:
		return len(ranks) + 3
	}
	for i, level := range ranks {
		for _, op := range level {
			if op == n.op {
				return i + 2
			}
		}
	}
	panic("no operator: " + n.op)
}

// text is the expression as a text, in brackets only where it binds weaker than the rank.
func (w *writer) text(n *node, rank int) string {
	own := rankOf(n)
	if own < rank {
		return "(" + w.text(n, 0) + ")"
	}
	gap := w.one("", " ", "", "\n\t", "")
	part := func(i, rank int) string { return gap + w.text(n.parts[i], rank) + gap }
	switch {
	case n.op == "set":
		return n.word + gap + n.sign + "=" + part(0, 0)
	case n.op == "?":
		return part(0, 2) + "?" + part(1, 0) + ":" + part(2, 1)
	case len(n.parts) == 0:
		return n.word
	case len(n.parts) == 1:
		return strings.TrimPrefix(n.op, "ahead ") + part(0, own)
	}
	return part(0, own) + n.op + part(1, own+1)
}

// bracketed is the expression as a text, each part of it in brackets.
func (w *writer) bracketed(n *node) string {
	part := func(i int) string { return "(" + w.bracketed(n.parts[i]) + ")" }
	switch {
	case n.op == "set":
		return n.word + n.sign + "=" + part(0)
	case n.op == "?":
		return part(0) + "?" + part(1) + ":" + part(2)
	case len(n.parts) == 0:
		return n.word
	case len(n.parts) == 1:
		return strings.TrimPrefix(n.op, "ahead ") + part(0)
	}
	return part(0) + n.op + part(1)
}
