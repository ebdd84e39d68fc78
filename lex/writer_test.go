package lex_test

// writer makes texts by a rule that always goes the same way.
type writer struct{ state uint64 }

// pick is a number from 0 to below n.
func (w *writer) pick(n int) int {
	w.state = w.state*6364136223846793005 + 1442695040888963407
	return int(w.state >> 33 % uint64(n))
}

// one is one of the texts.
func (w *writer) one(l ...string) string { return l[w.pick(len(l))] }

// some is up to n texts, one behind the other.
func (w *writer) some(n int, next func() string) string {
	s := ""
	for range w.pick(n + 1) {
		s += next()
	}
	return s
}

// thing is a thing, at most deep ones within one another; it goes wrong now and then.
func (w *writer) thing(deep int) string {
	within := func() string { return w.some(3, func() string { return w.thing(deep - 1) }) }
	kind := w.pick(9)
	if deep == 0 {
		kind = w.pick(3)
	}
	switch kind {
	case 0:
		return w.one("a", "b", "2", "$", "$x", "{", "}", "(", ")", " ", "#", "=", "-", "\n", "\xff", "a", "b")
	case 1:
		return w.one(`\a`, `\'`, `\"`, `\$`, `\\`, "\\\n", `\}`, "\\`", `\)`, `\ `)
	case 2:
		return w.one("'a'", "''", "'}'", "')'", "'", `"`, "`", "'\"'", `'\'`, "'`'", "'$('", "'a'", "'b'")
	case 3, 4:
		return `"` + within() + `"`
	case 5:
		return "${x" + w.one("-", ":-", "#", "%%") + within() + "}"
	case 6:
		return "${" + within() + "}"
	case 7:
		return "$(" + within() + ")"
	}
	return "$((" + within() + "))"
}

// word is a word.
func (w *writer) word() string {
	if w.pick(2) == 0 {
		return w.one("a", "b1", "2", "10", "E", "a#b", "x=1", "-", "{", "!", "a\\\nb", "E")
	}
	return w.some(3, func() string { return w.thing(2) })
}

// script is lines of words, operators and texts in place, which go wrong now and then.
func (w *writer) script() string {
	return w.some(4, w.line)
}

// line is words and operators, a byte 10, and the texts in place that it names.
func (w *writer) line() string {
	bodies := ""
	s := w.some(6, func() string {
		switch w.pick(6) {
		case 0, 1:
			return w.one(documentOps...) + w.one("", " ")
		case 2:
			op, end := w.one("<<", "<<-"), w.pick(6)
			bodies += w.body() + w.one("", "\t", "\t\t") + []string{"E", "a b", "$x", "", "\"", "F"}[end] + "\n"
			return op + w.one("", " ", "\\\n") + []string{"E", "'a b'", `"\$x"`, `""`, `\"`, "F"}[end] + w.one(" ", "", ";")
		case 3:
			return w.one(" # c", "#", "\\\n", "\t", "# 'a") + w.one(" ", "\n")
		}
		return w.word() + w.one(" ", " ", "", "\t", ";")
	})
	return s + w.one("\n", "\n", "\n", " \n", "") + bodies
}

// body is lines of a text in place.
func (w *writer) body() string {
	return w.some(3, func() string { return w.one("", "\t", " ") + w.one("x", "$x", "E ", "'", "`", "", "EE", "#") + "\n" })
}
