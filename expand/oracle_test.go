package expand_test

import (
	"maps"
	"math/rand"
	"reflect"
	"slices"
	"strconv"
	"strings"
	"testing"

	"conch/api"
	"conch/arith"
	"conch/expand"
	"conch/glob"
	"conch/split"
	"conch/vars"
	"conch/word"
)

// oracle expands words as the chapter's sentences go, over a map, and ends by a panic.
type oracle struct {
	zero    string
	args    []string
	status  int
	set     map[string]string
	fixed   map[string]bool
	answers []string
	used    int
}

// over is what an oracle panics with.
type over struct {
	r expand.Result
	e api.Errno
}

// oracleOf is an oracle of what v has.
func oracleOf(v *vars.Vars, answers []string) *oracle {
	zero, _ := v.Param("0")
	o := &oracle{zero: zero, args: v.Args(), status: v.Status(), set: map[string]string{}, fixed: map[string]bool{}, answers: answers}
	for _, x := range v.All() {
		if x.Set {
			o.set[x.Name] = x.Value
		}
		o.fixed[x.Name] = x.Readonly
	}
	return o
}

// assign sets a variable, or ends.
func (o *oracle) assign(name, value string) {
	letters := "abcdefghijklmnopqrstuvwxyzABCDEFGHIJKLMNOPQRSTUVWXYZ_"
	if name == "" || strings.Trim(name, letters+"0123456789") != "" || !strings.Contains(letters, name[:1]) {
		panic(over{e: api.ErrName})
	}
	if o.fixed[name] {
		panic(over{e: api.ErrRead})
	}
	o.set[name] = value
}

// param is what a parameter stands for, and whether it is set.
func (o *oracle) param(p string) (string, bool) {
	switch p {
	case "@", "*":
		return strings.Join(o.args, " "), len(o.args) > 0
	case "#":
		return strconv.Itoa(len(o.args)), true
	case "?":
		return strconv.Itoa(o.status), true
	case "0":
		return o.zero, true
	}
	for i, s := range o.args {
		if p == strconv.Itoa(i+1) {
			return s, true
		}
	}
	s, is := o.set[p]
	return s, is
}

// of is the piece of a text.
func of(p api.Part, s string) []split.Piece {
	return []split.Piece{{Text: s, Quote: p.Quote, Split: !p.Quote}}
}

// word is the pieces of a word; owner is the part whose Word it is, or nil.
func (o *oracle) word(w api.Word, owner *api.Part) (out []split.Piece) {
	for _, p := range w {
		switch p.Kind {
		case api.Lit:
			parted := !p.Quote && owner != nil && (owner.Op == api.Default || owner.Op == api.Instead) && !owner.Quote
			out = append(out, split.Piece{Text: p.Text, Quote: p.Quote, Split: parted})
		case api.Run:
			if len(o.answers) == o.used {
				panic(over{r: expand.Result{Wants: true, Need: p.Text, Used: o.used}})
			}
			s := o.answers[o.used]
			o.used++
			for strings.HasSuffix(s, "\n") {
				s = s[:len(s)-1]
			}
			out = append(out, of(p, s)...)
		case api.Sum:
			out = append(out, of(p, o.sum(p.Text))...)
		case api.Var:
			out = append(out, o.variable(p)...)
		}
	}
	return out
}

// text is a word as one text.
func (o *oracle) text(p *api.Part) split.Field { return split.One(o.word(p.Word, p)) }

// sum is what a Sum is.
func (o *oracle) sum(s string) string {
	w, e := word.Here(s)
	if e != api.OK {
		panic(over{e: e})
	}
	text := split.One(o.word(w, nil)).Text
	var pairs []arith.Pair
	for name, value := range o.set {
		pairs = append(pairs, arith.Pair{Name: name, Value: value})
	}
	n, sets, e := arith.Eval(text, pairs)
	if e != api.OK {
		panic(over{e: e})
	}
	for _, x := range sets {
		o.assign(x.Name, x.Value)
	}
	return strconv.Itoa(n)
}

// given is the values of a Var.
func (o *oracle) given(p api.Part, values []string) (out []split.Piece) {
	if p.Text == "*" && p.Quote {
		by, is := o.set["IFS"]
		if !is {
			by = " "
		} else if by != "" {
			by = by[:1]
		}
		return of(p, strings.Join(values, by))
	}
	for i, s := range values {
		if i > 0 {
			out = append(out, split.Piece{Break: true})
		}
		out = append(out, of(p, s)...)
	}
	return out
}

// variable is what a Var is.
func (o *oracle) variable(p api.Part) []split.Piece {
	text, is := o.param(p.Text)
	values := []string{text}
	if p.Text == "@" || p.Text == "*" {
		values = slices.Clone(o.args)
	}
	counts := is && (text != "" || !p.Colon)
	var front []split.Piece
	if p.Quote {
		front = of(p, "")
	}
	switch {
	case p.Op < api.Plain || p.Op > api.Backs:
		panic(over{e: api.ErrArg})
	case p.Op == api.Length && (p.Text == "@" || p.Text == "*"):
		return of(p, strconv.Itoa(len(values)))
	case p.Op == api.Length:
		return of(p, strconv.Itoa(len(text)))
	case p.Op == api.Instead && !counts:
		return front
	case p.Op == api.Instead, p.Op == api.Default && !counts:
		return append(front, o.word(p.Word, &p)...)
	case p.Op == api.Assign && !counts:
		s := o.text(&p).Text
		o.assign(p.Text, s)
		return of(p, s)
	case p.Op == api.Fail && !counts:
		panic(over{r: expand.Result{Message: o.text(&p).Text}, e: api.ErrSet})
	case p.Op >= api.Front:
		f := o.text(&p)
		for i, s := range values {
			values[i] = cut(glob.Parse(f.Text, f.Quoted), s, p.Op)
		}
	}
	return o.given(p, values)
}

// cut tries all beginnings, or ends, one by one.
func cut(pattern []glob.Token, s string, op int) string {
	best := s
	for i := range len(s) + 1 {
		switch {
		case op == api.Front && glob.Match(pattern, s[:i]):
			return s[i:]
		case op == api.Fronts && glob.Match(pattern, s[:i]):
			best = s[i:]
		case op == api.Back && glob.Match(pattern, s[i:]):
			best = s[:i]
		case op == api.Backs && glob.Match(pattern, s[i:]):
			return s[:i]
		}
	}
	return best
}

// all is what is to be answered, the variables as a map.
func (o *oracle) all(words []api.Word, one bool) (r expand.Result, e api.Errno) {
	defer func() {
		if x := recover(); x != nil {
			r, e = x.(over).r, x.(over).e
		}
	}()
	for _, w := range words {
		l := o.word(w, nil)
		if one {
			r.Fields = append(r.Fields, split.One(l))
			continue
		}
		ifs, is := o.set["IFS"]
		if !is {
			ifs = " \t\n"
		}
		r.Fields = append(r.Fields, split.Fields(l, ifs)...)
	}
	r.Used = o.used
	return r, api.OK
}

// agree holds what a call answers against an oracle's answer.
func agree(t *testing.T, v *vars.Vars, words []api.Word, answers []string, one bool) {
	t.Helper()
	o := oracleOf(v, answers)
	want, wrong := o.all(words, one)
	var r expand.Result
	var e api.Errno
	if one {
		r, e = expand.One(v, words[0], answers...)
	} else {
		r, e = expand.Expand(v, words, answers...)
	}
	there := r.Vars
	r.Vars = nil
	if shown(r.Fields...) != shown(want.Fields...) || len(r.Fields) != len(want.Fields) || e != wrong {
		t.Fatalf("of %s, %q, one %v: %q, %v, want %q, %v", told(words...), answers, one, shown(r.Fields...), e, shown(want.Fields...), wrong)
	}
	r.Fields, want.Fields = nil, nil
	if !reflect.DeepEqual(r, want) || (there != nil) != (e == api.OK && !r.Wants) {
		t.Fatalf("of %s, %q, one %v: %+v, want %+v", told(words...), answers, one, r, want)
	}
	if there == nil {
		return
	}
	now := map[string]string{}
	for _, x := range there.All() {
		if x.Set {
			now[x.Name] = x.Value
		}
	}
	if !maps.Equal(now, o.set) || !slices.Equal(there.Args(), o.args) || there.Status() != o.status {
		t.Fatalf("of %s: set is %q, want %q", told(words...), now, o.set)
	}
}

// shells is variables with each kind of IFS and several numbers of arguments.
func shells() []*vars.Vars {
	var l []*vars.Vars
	for _, ifs := range []string{"unset", "", ":", ": ", " a"} {
		for _, args := range [][]string{nil, {"a:b c"}, {"", "b", " :"}} {
			v := vars.New("sh", args...)
			if ifs != "unset" {
				v.Set("IFS", ifs)
			}
			v.Set("x", "a b:a")
			v.Set("e", "")
			v.Set("n", "5")
			v.Set("r", "2")
			v.Readonly("r")
			v.SetStatus(300)
			l = append(l, v)
		}
	}
	return l
}

// leaves is parts without a Word.
func leaves() []api.Part {
	return []api.Part{
		lit(""), lit("a"), lit(" :"), lit("b* c"), lit("?"),
		run("f"), run("g h"),
		sum("1+1"), sum("n=n+1"), sum("y=4"), sum("r=1"), sum("$n/2"), sum("$@"), sum("${y-$(f)}"), sum("1+"),
		plain("x"), plain("e"), plain("y"), plain("n"), plain("@"), plain("*"), plain("#"), plain("?"), plain("0"), plain("1"), plain("3"), plain("IFS"),
		op("x", api.Length), op("@", api.Length), op("y", api.Length), {Kind: 7, Text: "x"}, op("x", -1),
	}
}

// ends is leaves that are made once.
var ends = leaves()

// grown is a part that has perhaps a Word of others.
func grown(r *rand.Rand, deep int) api.Part {
	p := ends[r.Intn(len(ends))]
	if r.Intn(3) > 0 && deep > 0 {
		names := []string{"x", "e", "y", "n", "r", "@", "*", "#", "0", "1", "2", "IFS", "z"}
		p = op(names[r.Intn(len(names))], api.Default+r.Intn(8))
		p.Colon = r.Intn(2) == 0
		for range r.Intn(4) {
			p.Word = append(p.Word, grown(r, deep-1))
		}
	}
	p.Quote = r.Intn(2) == 0
	return p
}

// P10.1, P10.2: each part, and each pair of parts, of all kinds, quoted and not, with each IFS.
func TestPairs(t *testing.T) {
	var parts []api.Part
	for _, p := range leaves() {
		parts = append(parts, p, quote(p))
	}
	for _, v := range shells() {
		for _, a := range parts {
			for _, b := range parts {
				agree(t, v, []api.Word{{a, b}}, []string{"a b\n", ":\n\n", "c"}, false)
			}
			agree(t, v, []api.Word{{a}, {a}}, []string{"1"}, false)
			agree(t, v, []api.Word{{a}}, []string{" 1 "}, true)
		}
	}
}

// P10.1, P10.2: each Op of each parameter, with each part as its Word.
func TestEachOp(t *testing.T) {
	for _, v := range shells() {
		for o := -1; o <= api.Backs+1; o++ {
			for _, name := range []string{"x", "e", "y", "r", "@", "*", "#", "?", "0", "1", "2", "3", "IFS"} {
				for _, w := range []api.Part{lit("a* :"), run("f"), sum("y=4"), sum("r=1"), plain("x"), plain("y"), plain("@"), plain("*"), op("z", api.Length)} {
					for bits := range 8 {
						p := api.Part{Kind: api.Var, Text: name, Op: o, Colon: bits&1 > 0, Quote: bits&2 > 0, Word: api.Word{w}}
						p.Word[0].Quote = bits&4 > 0
						agree(t, v, []api.Word{{lit("p"), p, plain("x")}}, []string{"a b\n"}, false)
					}
				}
			}
		}
	}
}

// P10.1, P10.2: words of any parts, within one another.
func TestAnyWords(t *testing.T) {
	r := rand.New(rand.NewSource(10))
	all := shells()
	for range 40000 {
		var words []api.Word
		for range 1 + r.Intn(3) {
			var w api.Word
			for range r.Intn(4) {
				w = append(w, grown(r, 3))
			}
			words = append(words, w)
		}
		answers := []string{"a b\n", ":c:\n\n", "", "4", "\n:"}[:r.Intn(6)]
		v := all[r.Intn(len(all))]
		agree(t, v, words, answers, false)
		agree(t, v, words[:1], answers, true)
	}
}

// P10.1, P10.2: any text that is a word.
func TestAnyTexts(t *testing.T) {
	r := rand.New(rand.NewSource(11))
	things := []string{"$x", "${x", "${y", "${@", "${*", "-", ":-", "+", "=", "?", "#", "##", "%", "%%", "}", "}", "}", "\"", "\"", "'", "$(f)", "$((", "))", "n=1", "a", "b", "*", "?", ":", "\\", "$@", "$*", "$n", "$IFS", "${IFS="}
	all := shells()
	seen := 0
	for range 200000 {
		var b strings.Builder
		for range 1 + r.Intn(8) {
			b.WriteString(things[r.Intn(len(things))])
		}
		w, e := word.Parse(b.String())
		if e != api.OK {
			continue
		}
		seen++
		v := all[r.Intn(len(all))]
		agree(t, v, []api.Word{w}, []string{"a b\n", "2"}[:r.Intn(3)], r.Intn(2) == 0)
	}
	if seen < 5000 {
		t.Errorf("only %d texts are words", seen)
	}
}
