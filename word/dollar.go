package word

import (
	"strings"

	"conch/api"
	"conch/chars"
	"conch/lex"
)

// special are the parameters of one byte that is no Digit.
const special = "@*#?"

// signs of Ops that have a Word stand so that none is ahead of a longer one that begins with it.
var signs = [...]struct {
	sign string
	op   int
}{
	{"-", api.Default}, {"=", api.Assign}, {"?", api.Fail}, {"+", api.Instead},
	{"##", api.Fronts}, {"#", api.Front}, {"%%", api.Backs}, {"%", api.Back},
}

// short reads what follows a $ that neither a brace nor a run begins with, and tells how many bytes of it belong to that.
func (w way) short(behind string, add func(p api.Part)) int {
	n := chars.Front(behind)
	if n == 0 && behind != "" && (chars.Digit(behind[0]) || isSpecial(behind[0])) {
		n = 1
	}
	if n == 0 {
		add(lit("$", true))
		return 0
	}
	add(api.Part{Kind: api.Var, Text: behind[:n], Quote: rules[w].quoted})
	return n
}

// isSpecial tells whether a byte is a parameter of its own.
func isSpecial(c byte) bool { return strings.IndexByte(special, c) >= 0 }

// long reads a brace or a run, without its $.
func (w way) long(text string, add func(p api.Part)) api.Errno {
	inside := text[1 : len(text)-1]
	var p api.Part
	e := api.OK
	if text[0] == '(' {
		p = run(inside)
	} else {
		p, e = w.brace(inside)
	}
	if e != api.OK {
		return e
	}
	p.Quote = rules[w].quoted
	add(p)
	return api.OK
}

// run is a Sum, if what stands inside is just one bracket, else a Run.
func run(inside string) api.Part {
	if isBracket(inside) {
		return api.Part{Kind: api.Sum, Text: inside[1 : len(inside)-1]}
	}
	return api.Part{Kind: api.Run, Text: inside}
}

// isBracket tells whether a text is one bracket, and nothing else.
func isBracket(text string) bool {
	if !strings.HasPrefix(text, "(") {
		return false
	}
	// A bracket is no thing of a word, but behind a $ it is.
	asRun := "$" + text
	end, _, e := lex.Piece(asRun, 0, false)
	return e == api.OK && end == len(asRun)
}

// brace is a Var, of what stands inside.
func (w way) brace(inside string) (api.Part, api.Errno) {
	if of, counts := strings.CutPrefix(inside, "#"); counts && of != "" && parameter(of) == len(of) {
		return api.Part{Kind: api.Var, Text: of, Op: api.Length}, api.OK
	}
	n := parameter(inside)
	if n == 0 {
		return api.Part{}, api.ErrSyntax
	}
	p := api.Part{Kind: api.Var, Text: inside[:n]}
	if n == len(inside) {
		return p, api.OK
	}
	text, found := operation(&p, inside[n:])
	if !found {
		return api.Part{}, api.ErrSyntax
	}
	word, e := w.within(p.Op).word(text)
	if e != api.OK {
		return api.Part{}, e
	}
	p.Word = word
	return p, api.OK
}

// operation gives a part its Op and Colon, of what stands behind its parameter, and answers what stands behind them.
func operation(p *api.Part, text string) (string, bool) {
	text, p.Colon = strings.CutPrefix(text, ":")
	for _, s := range signs {
		rest, found := strings.CutPrefix(text, s.sign)
		if found && !(p.Colon && s.op >= api.Front) {
			p.Op = s.op
			return rest, true
		}
	}
	return "", false
}

// parameter is how many bytes of one stand at the front of a text; 0: there is none.
func parameter(text string) int {
	if n := chars.Front(text); n > 0 || text == "" {
		return n
	}
	if isSpecial(text[0]) {
		return 1
	}
	n := 0
	for n < len(text) && chars.Digit(text[n]) {
		n++
	}
	// More than three Digits, or a 0 with others behind it, are no parameter, nor is their beginning.
	if n > 3 || n > 1 && text[0] == '0' {
		return 0
	}
	return n
}
