package parse_test

import (
	"slices"
	"strings"

	"conch/api"
	"conch/chars"
	"conch/lex"
	"conch/word"
)

// grammar is the chapter's, rule by rule: ways apart by " / ", things one behind the other by blanks;
// a * behind a thing: any number of it; a ! behind it: as many as there are (what stands behind a Word of a Simple is one,
// too, and not reserved); a ? behind it: perhaps. What is no rule and no class is a token's text.
var grammar = map[string]string{
	"line":     "andor another* semi? LINEEND",
	"another":  "; andor",
	"semi":     ";",
	"gap":      "NEWLINE*",
	"end":      "; gap / NEWLINE gap",
	"list":     "gap andor further* end?",
	"further":  "end andor",
	"andor":    "pipeline joined*",
	"joined":   "&& gap pipeline / || gap pipeline",
	"pipeline": "not? command piped*",
	"not":      "!",
	"piped":    "| gap command",
	"command":  "compound redir* / FUNCNAME ( ) gap compound redir* / simple",
	"compound": "( list ) / { list } / if branch / while list dogroup / until list dogroup / for NAME among dogroup / case WORD gap in gap items esac",
	"branch":   "list then list fi / list then list else list fi / list then list elif branch",
	"dogroup":  "do list done",
	"among":    "; gap / gap / gap in WORD* end",
	"items":    "closed* / closed* item",
	"closed":   "item ;; gap",
	"item":     "( WORD orword* ) body / NOESAC orword* ) body",
	"orword":   "| WORD",
	"body":     "list / gap",
	"simple":   "FIRST any! / redir any!",
	"any":      "WORD / redir",
	"redir":    "IO? sign",
	"sign":     "< WORD / > WORD / >> WORD / <> WORD / <& WORD / >& WORD / HERE ENDWORD",
}

// reader tells which tokens a rule may take, all ways at once, and how far any of them came.
type reader struct {
	tokens []lex.Token
	far    int               // the last place at which a token was asked for
	faults map[int]api.Errno // what is wrong with tokens that would fit
	known  map[string][][]int
}

// class tells whether a token is of a class, and what is wrong with it, if it is.
func class(name string, t lex.Token) (bool, api.Errno) {
	isWord := t.Kind == lex.Word
	switch name {
	case "NEWLINE":
		return t.Kind == lex.Newline, api.OK
	case "LINEEND":
		return t.Kind == lex.Newline || t.Kind == 0, api.OK
	case "NAME":
		return isWord && chars.Name(t.Text), api.OK
	case "FUNCNAME":
		return isWord && chars.Name(t.Text) && !isReserved(t.Text), api.OK
	case "ENDWORD":
		return isWord, api.OK
	case "IO":
		_, e := chars.Number(t.Text, 999)
		return t.Kind == lex.Io, e
	case "HERE":
		_, e := word.Here(t.Body)
		if t.Raw {
			e = api.OK
		}
		return t.Text == "<<" || t.Text == "<<-", e
	}
	_, e := word.Parse(t.Text)
	return isWord && (name == "WORD" || name == "FIRST" && !isReserved(t.Text) || name == "NOESAC" && t.Text != "esac"), e
}

// token takes one token of a class, or with a text.
func (r *reader) token(name string, at int) []int {
	r.far = max(r.far, at)
	var t lex.Token
	if at < len(r.tokens) {
		t = r.tokens[at]
	}
	fits, e := t.Text == name, api.OK
	if name == strings.ToUpper(name) && chars.Alpha(name[0]) {
		fits, e = class(name, t)
	}
	if !fits {
		return nil
	}
	if e != api.OK {
		r.faults[at] = e
		return nil
	}
	return []int{min(at+1, len(r.tokens))}
}

// thing is where a thing of a rule may end that begins at a place.
func (r *reader) thing(name string, at int) []int {
	if len(name) > 1 && strings.HasSuffix(name, "?") {
		return append([]int{at}, r.thing(name[:len(name)-1], at)...)
	}
	if len(name) > 1 && strings.HasSuffix(name, "!") {
		for ends := r.thing(name[:len(name)-1], at); len(ends) > 0; ends = r.thing(name[:len(name)-1], at) {
			at = ends[0]
		}
		return []int{at}
	}
	if len(name) > 1 && strings.HasSuffix(name, "*") {
		ends := []int{at}
		for i := 0; i < len(ends); i++ {
			for _, end := range r.thing(name[:len(name)-1], ends[i]) {
				if !slices.Contains(ends, end) {
					ends = append(ends, end)
				}
			}
		}
		return ends
	}
	if rule, found := grammar[name]; found {
		return r.rule(name, rule, at)
	}
	return r.token(name, at)
}

// rule is where a rule may end that begins at a place.
func (r *reader) rule(name, rule string, at int) []int {
	if r.known[name] == nil {
		r.known[name] = make([][]int, len(r.tokens)+1)
	}
	if ends := r.known[name][at]; ends != nil {
		return ends
	}
	ends := []int{}
	for _, way := range strings.Split(rule, " / ") {
		places := []int{at}
		for _, name := range strings.Fields(way) {
			var next []int
			for _, place := range places {
				next = append(next, r.thing(name, place)...)
			}
			slices.Sort(next)
			places = slices.Compact(next)
		}
		ends = append(ends, places...)
	}
	slices.Sort(ends)
	r.known[name][at] = slices.Compact(ends)
	return r.known[name][at]
}

// oracle is how many lines of a script are right, and what is wrong behind them, of scripts that are not deep.
func oracle(s string) (lines, at int, e api.Errno) {
	tokens, blame, broken := lex.Lex(s)
	r := &reader{tokens: tokens, faults: map[int]api.Errno{}, known: map[string][][]int{}}
	for place := 0; ; lines++ {
		for place < len(tokens) && tokens[place].Kind == lex.Newline {
			place++
		}
		if place == len(tokens) {
			return lines, blame, broken
		}
		r.far = place
		ends := r.thing("line", place)
		switch {
		case len(ends) > 0 && (ends[0] < len(tokens) || tokens[len(tokens)-1].Kind == lex.Newline || broken == api.OK):
			place = ends[0]
		case r.far < len(tokens) && r.faults[r.far] != api.OK:
			return lines, tokens[r.far].At, r.faults[r.far]
		case r.far < len(tokens):
			return lines, tokens[r.far].At, api.ErrSyntax
		case broken != api.OK:
			return lines, blame, broken
		default:
			return lines, len(s), api.ErrSyntax
		}
	}
}
