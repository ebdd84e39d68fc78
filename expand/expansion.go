package expand

import (
	"strings"

	"conch/api"
	"conch/split"
	"conch/vars"
)

// blanks is what parts fields where IFS is not set.
const blanks = " \t\n"

// expansion is words on their way to be fields. Its methods tell by a bool whether it goes on; where it does not, it knows why.
type expansion struct {
	vars    *vars.Vars // a copy of what was handed in, with all that was set since
	answers []string
	used    int
	wants   bool
	need    string
	message string
	wrong   api.Errno
}

// begin makes an expansion, of which nothing is done yet.
func begin(v *vars.Vars, answers ...string) *expansion {
	return &expansion{vars: v.Copy(), answers: answers}
}

// fail ends the expansion by an error.
func (x *expansion) fail(e api.Errno) bool {
	x.wrong = e
	return false
}

// ended is what is told of an expansion that did not go on.
func (x *expansion) ended() (Result, api.Errno) {
	if x.wants {
		return Result{Wants: true, Need: x.need, Used: x.used}, api.OK
	}
	return Result{Message: x.message}, x.wrong
}

// done is what is told of an expansion that went on to its end.
func (x *expansion) done(fields ...split.Field) (Result, api.Errno) {
	return Result{Fields: fields, Vars: x.vars, Used: x.used}, api.OK
}

// answer is the next answer, or ends the expansion by wanting one for a script.
func (x *expansion) answer(script string) (string, bool) {
	if x.used == len(x.answers) {
		x.wants, x.need = true, script
		return "", false
	}
	x.used++
	return strings.TrimRight(x.answers[x.used-1], "\n"), true
}

// separators is the bytes that part fields.
func (x *expansion) separators() string {
	if ifs, is := x.vars.Get("IFS"); is {
		return ifs
	}
	return blanks
}

// between is what stands between arguments that are one text.
func (x *expansion) between() string {
	ifs := x.separators()
	return ifs[:min(1, len(ifs))]
}

// gather is the pieces that a word's parts come to.
func (x *expansion) gather(w api.Word) ([]split.Piece, bool) {
	var l pieces
	on := x.word(&l, w, false)
	return l, on
}

// one is a word expanded as one text.
func (x *expansion) one(w api.Word) (split.Field, bool) {
	l, on := x.gather(w)
	if !on {
		return split.Field{}, false
	}
	return split.One(l), true
}
