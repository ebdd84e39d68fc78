package word_test

import (
	"regexp"
	"strings"

	"conch/api"
	"conch/lex"
)

// parameterForm is a parameter, as far as what stands behind it plays no part.
const parameterForm = `([A-Za-z_][A-Za-z0-9_]*|[@*#?]|0|[1-9][0-9]?[0-9]?)`

var (
	shortForm  = regexp.MustCompile(`^\$([A-Za-z_][A-Za-z0-9_]*|[0-9@*#?])`)
	lengthForm = regexp.MustCompile(`^\$\{#` + parameterForm + `\}`)
	plainForm  = regexp.MustCompile(`^\$\{` + parameterForm + `\}`)
	opForm     = regexp.MustCompile(`^\$\{` + parameterForm + `(:?)([-=?+]|##?|%%?)`)
)

// opNames are the Ops by their signs.
var opNames = map[string]int{
	"-": api.Default, "=": api.Assign, "?": api.Fail, "+": api.Instead,
	"#": api.Front, "##": api.Fronts, "%": api.Back, "%%": api.Backs,
}

// dropped are the bytes ahead of which a \ is dropped, where a way leaves it ahead of others.
var dropped = map[string]string{"quotes": "$\"\\`\n", "quoted brace": "$\"\\`}\n", "place": "$\\`\n"}

// oracle reads a text in one go: it never looks for where a thing ends, but comes to its end.
type oracle struct {
	s   string
	at  int
	bad bool
}

// parseOracle is the parts of a text that is read in a way.
func parseOracle(s, way string) (api.Word, api.Errno) {
	if len(s) > 4096 {
		return nil, api.ErrBig
	}
	o := oracle{s: s}
	var w api.Word
	for o.at < len(s) {
		end, _, e := lex.Piece(s, o.at, way == "place")
		if e != api.OK {
			return nil, e
		}
		if way == "plain" && strings.Contains(" \t\n|&;<>()", s[o.at:o.at+1]) {
			return nil, api.ErrSyntax
		}
		o.next(way, &w)
		if o.bad {
			return nil, api.ErrSyntax
		}
		if o.at < end {
			panic("a thing ends ahead of where lex has it: " + s)
		}
	}
	return w, api.OK
}

// put adds bytes to a word.
func put(w *api.Word, text string, quote bool) {
	if n := len(*w); n > 0 && (*w)[n-1].Kind == api.Lit && (*w)[n-1].Quote == quote {
		(*w)[n-1].Text += text
		return
	}
	*w = append(*w, api.Part{Kind: api.Lit, Text: text, Quote: quote})
}

// take takes n bytes.
func (o *oracle) take(n int) string {
	s := o.s[o.at : o.at+n]
	o.at += n
	return s
}

// rest is what is still to be read.
func (o *oracle) rest() string { return o.s[o.at:] }

// next reads what comes next.
func (o *oracle) next(way string, w *api.Word) {
	quoting := dropped[way] != ""
	switch c := o.s[o.at]; {
	case c == '\\':
		o.pair(way, w)
	case c == '\'' && (way == "plain" || way == "brace"):
		text, _, _ := strings.Cut(o.rest()[1:], "'")
		o.take(len(text) + 2)
		put(w, text, true)
	case c == '"' && way != "place":
		o.take(1)
		var inner api.Word
		for !o.bad && o.s[o.at] != '"' {
			o.next("quotes", &inner)
		}
		o.take(1)
		if len(inner) == 0 {
			put(w, "", true)
		}
		for _, p := range inner {
			if p.Kind == api.Lit {
				put(w, p.Text, true)
			} else {
				*w = append(*w, p)
			}
		}
	case c == '$':
		o.dollar(way, quoting, w)
	default:
		put(w, o.take(1), quoting)
	}
}

// pair reads a \ and what stands behind it.
func (o *oracle) pair(way string, w *api.Word) {
	o.take(1)
	if o.at == len(o.s) {
		put(w, `\`, true)
		return
	}
	c := o.take(1)
	if only := dropped[way]; only != "" && !strings.Contains(only, c) {
		c = `\` + c
	}
	if c != "\n" {
		put(w, c, true)
	}
}

// dollar reads what begins with a $.
func (o *oracle) dollar(way string, quoting bool, w *api.Word) {
	p := api.Part{Kind: api.Var, Quote: quoting}
	if strings.HasPrefix(o.rest(), "$(") {
		o.take(2)
		begin, first := o.at, -1
		for o.s[o.at] != ')' {
			opens := o.s[o.at] == '('
			o.pass("bracket")
			if opens && first < 0 {
				first = o.at
			}
		}
		p.Kind, p.Text = api.Run, o.s[begin:o.at]
		if o.s[begin] == '(' && first == o.at {
			p.Kind, p.Text = api.Sum, o.s[begin+1:o.at-1]
		}
		o.take(1)
	} else if m := lengthForm.FindStringSubmatch(o.rest()); m != nil {
		p.Text, p.Op = m[1], api.Length
		o.take(len(m[0]))
	} else if m := plainForm.FindStringSubmatch(o.rest()); m != nil {
		p.Text = m[1]
		o.take(len(m[0]))
	} else if m := opForm.FindStringSubmatch(o.rest()); m != nil {
		p.Text, p.Colon, p.Op = m[1], m[2] != "", opNames[m[3]]
		o.take(len(m[0]))
		o.bad = p.Colon && strings.Contains("## %%", m[3])
		inner := "quoted brace"
		if way == "plain" || way == "brace" {
			inner = "brace"
		} else if p.Op >= api.Front {
			inner = "pattern"
		}
		for !o.bad && o.s[o.at] != '}' {
			o.next(inner, &p.Word)
		}
		o.take(1)
	} else if m := shortForm.FindStringSubmatch(o.rest()); m != nil {
		p.Text = m[1]
		o.take(len(m[0]))
	} else {
		o.bad = strings.HasPrefix(o.rest(), "${")
		put(w, o.take(1), true)
		return
	}
	*w = append(*w, p)
}

// pass passes over what stands in a bracket; in says what it stands in: a bracket, a brace, a quoted brace, quotes.
func (o *oracle) pass(in string) {
	within := func(n int, inner string, end byte) {
		for o.take(n); o.s[o.at] != end; {
			o.pass(inner)
		}
		o.take(1)
	}
	switch rest := o.rest(); {
	case rest[0] == '\\':
		o.take(2)
	case rest[0] == '"' && in != "quotes":
		within(1, "quotes", '"')
	case rest[0] == '\'' && (in == "bracket" || in == "brace"):
		o.take(2 + strings.Index(rest[1:], "'"))
	case strings.HasPrefix(rest, "${") && (in == "bracket" || in == "brace"):
		within(2, "brace", '}')
	case strings.HasPrefix(rest, "${"):
		within(2, "quoted brace", '}')
	case strings.HasPrefix(rest, "$("):
		within(2, "bracket", ')')
	case rest[0] == '(' && in == "bracket":
		within(1, "bracket", ')')
	default:
		o.take(1)
	}
}

// escapedOracle is a text with a \ ahead of some bytes.
func escapedOracle(text string, bytes string) string {
	text = strings.ReplaceAll(text, `\`, `\\`)
	for _, c := range strings.Split(bytes, "") {
		text = strings.ReplaceAll(text, c, `\`+c)
	}
	return text
}

// writeOracle is a word written in a way, text by text.
func writeOracle(w api.Word, way string) string {
	text := ""
	for _, p := range w {
		text += writePart(p, way)
	}
	return text
}

// writePart is a part written in a way.
func writePart(p api.Part, way string) string {
	if p.Kind == api.Lit {
		return writeLit(p, way)
	}
	text := ""
	switch p.Kind {
	case api.Var:
		if p.Op < 0 || p.Op > 9 {
			return ""
		}
		text = "${" + strings.Repeat("#", b2i(p.Op == api.Length)) + p.Text + strings.Repeat(":", b2i(p.Colon)) +
			[]string{"", "", "-", "=", "?", "+", "#", "##", "%", "%%"}[p.Op]
		switch {
		case p.Op < api.Default:
		case !p.Quote && (way == "plain" || way == "brace"):
			text += writeOracle(p.Word, "brace")
		case p.Op >= api.Front:
			text += writeOracle(p.Word, "pattern")
		default:
			text += writeOracle(p.Word, "quoted brace")
		}
		text += "}"
	case api.Run:
		text = "$(" + p.Text + ")"
	case api.Sum:
		text = "$((" + p.Text + "))"
	default:
		return ""
	}
	if p.Quote && (way == "plain" || way == "brace" || way == "pattern") {
		text = `"` + text + `"`
	}
	return text
}

// writeLit is a Lit written in a way.
func writeLit(p api.Part, way string) string {
	if !p.Quote {
		return p.Text
	}
	switch way {
	case "pattern":
		return `"` + escapedOracle(p.Text, "$\"`") + `"`
	case "quoted brace":
		if p.Text == "" {
			return `""`
		}
		return escapedOracle(p.Text, "$\"`}")
	case "place":
		return escapedOracle(p.Text, "$`")
	}
	return "'" + strings.ReplaceAll(p.Text, "'", `'\''`) + "'"
}

// b2i is 1 of true.
func b2i(b bool) int {
	if b {
		return 1
	}
	return 0
}
