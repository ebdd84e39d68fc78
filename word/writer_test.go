package word_test

import "conch/api"

// writer makes texts and words by a rule that always goes the same way.
type writer struct{ state uint64 }

// pick is a number from 0 to below n.
func (w *writer) pick(n int) int {
	w.state = w.state*6364136223846793005 + 1442695040888963407
	return int(w.state >> 33 % uint64(n))
}

// one is one of the texts.
func (w *writer) one(l ...string) string { return l[w.pick(len(l))] }

// some is up to n texts, one behind the other.
func (w *writer) some(n int, next func() string) string {
	s := ""
	for range w.pick(n + 1) {
		s += next()
	}
	return s
}

// parameter is a parameter, or now and then something that is none.
func (w *writer) parameter() string {
	if w.pick(20) == 0 {
		return w.one("", "00", "1234", "-", "x-y", "!", "{", "010")
	}
	return w.one("x", "y1", "_", "@", "*", "#", "?", "0", "7", "10", "999")
}

// brace is a brace, with things in it that are at most deep within one another.
func (w *writer) brace(deep int) string {
	switch w.pick(8) {
	case 0:
		return "${" + w.parameter() + "}"
	case 1:
		return "${#" + w.parameter() + "}"
	case 2:
		return "${" + w.parameter() + w.one("", ":", ":", "-", "#", "%", "+") + w.one("/", ":", "!", "#", "%", "-", "") + "}"
	}
	op := w.one("-", "=", "?", "+", ":-", ":=", ":?", ":+", "#", "##", "%", "%%")
	return "${" + w.parameter() + op + w.text(3, deep) + "}"
}

// thing is a thing, at most deep ones within one another; it goes wrong now and then.
func (w *writer) thing(deep int) string {
	kind := w.pick(12)
	if deep == 0 {
		kind = w.pick(5)
	}
	switch kind {
	case 0:
		return w.one("a", "b", "2", "$", "*", "[", "#", "=", "-", "~", "\xff", "a", "b", "{", "a", "b")
	case 1:
		return w.one(`\a`, `\'`, `\"`, `\$`, `\\`, "\\\n", `\}`, "\\`", `\)`, `\ `)
	case 2:
		return w.one("'a'", "''", "'}'", `'"'`, `'\'`, "'`'", "'$x'", "' '", `""`)
	case 3:
		return w.one("$", "") + w.one("$x", "$x1", "$1", "$10", "$@", "$*", "$#", "$?", "$", "$-", "$!")
	case 4:
		return w.one("a", "b", "1", "?", "a", "b", "a", "b", " ", "\n", "(", ")", "}", "'", `"`, "`")
	case 5, 6:
		return `"` + w.text(3, deep) + `"`
	case 7, 8, 9:
		return w.brace(deep - 1)
	case 10:
		return "$(" + w.text(3, deep) + ")"
	}
	return "$((" + w.text(3, deep) + ")" + w.one("", "", "", "+(1)", " ") + ")"
}

// text is up to n things.
func (w *writer) text(n, deep int) string {
	return w.some(n, func() string { return w.thing(max(deep-1, 0)) })
}

// word is a word whose parts are of all kinds, also such as no text has.
func (w *writer) word(deep int) api.Word {
	var l api.Word
	for range w.pick(4) {
		l = append(l, w.part(deep))
	}
	return l
}

// part is a part of a word; what can't be written stands in it now and then.
func (w *writer) part(deep int) api.Part {
	p := api.Part{Kind: api.Lit, Quote: w.pick(2) == 0}
	switch w.pick(5) {
	case 0, 1:
		p.Text = w.one("a", "b c", "*", "'", `"`, `\`, "$", "}", "`", "\n", "", "$x", "a\\\nb", "x", "y")
	case 2, 3:
		p.Kind, p.Text, p.Op = api.Var, w.parameter(), w.pick(10)
		p.Colon = api.Default <= p.Op && p.Op < api.Front && w.pick(2) == 0
		if deep > 0 && p.Op >= api.Default {
			p.Word = w.word(deep - 1)
		}
	case 4:
		p.Kind, p.Text = api.Run+w.pick(2), w.one("", "a", "a b", "(a)", "(a)+(b)", "1+2", "'a)'", `"$x"`, "a)", "(", "`")
	}
	if w.pick(60) == 0 {
		p.Kind = w.pick(7) - 1
	}
	if w.pick(60) == 0 {
		p.Op = w.pick(14) - 2
	}
	if w.pick(60) == 0 {
		p.Colon = !p.Colon
	}
	return p
}
