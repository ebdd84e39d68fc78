package expand

import (
	"conch/api"
	"conch/chars"
	"conch/glob"
)

// operation is what a Var's Op does: a closure over the part, and over its values as they are ahead of its Word, which may set others.
func (x *expansion) operation(l *pieces, p api.Part) func() bool {
	values := x.values(p)
	give := func() bool { return x.give(l, p, values...) }
	switch p.Op {
	case api.Plain:
		return give
	case api.Length:
		return func() bool { return l.length(p, values...) }
	case api.Default:
		return x.choice(p, give, func() bool { return x.inPlace(l, p, p.Word) })
	case api.Assign:
		return x.choice(p, give, func() bool { return x.assign(l, p) })
	case api.Fail:
		return x.choice(p, give, func() bool { return x.refuse(p) })
	case api.Instead:
		return x.choice(p, func() bool { return x.inPlace(l, p, p.Word) }, func() bool { return x.inPlace(l, p, nil) })
	case api.Front, api.Fronts:
		return x.shorten(l, p, values, func(pattern []glob.Token, s string) string {
			return s[max(0, glob.Front(pattern, s, p.Op == api.Fronts)):]
		})
	case api.Back, api.Backs:
		return x.shorten(l, p, values, func(pattern []glob.Token, s string) string {
			return s[:len(s)-max(0, glob.Back(pattern, s, p.Op == api.Backs))]
		})
	}
	return func() bool { return x.fail(api.ErrArg) }
}

// every tells whether a Var stands for all arguments.
func every(p api.Part) bool { return p.Text == "@" || p.Text == "*" }

// values is what a Var stands for: all arguments, or just one text, which has no bytes if nothing is set.
func (x *expansion) values(p api.Part) []string {
	if every(p) {
		return x.vars.Args()
	}
	s, _ := x.vars.Param(p.Text)
	return []string{s}
}

// counts tells whether a Var is set, and is not taken as if it were not.
func (x *expansion) counts(p api.Part) bool {
	s, is := x.vars.Param(p.Text)
	return is && !(p.Colon && s == "")
}

// choice is the one of two things to do that p asks for by whether it counts.
func (x *expansion) choice(p api.Part, counts, not func() bool) func() bool {
	return func() bool {
		if x.counts(p) {
			return counts()
		}
		return not()
	}
}

// give adds a Var's values.
func (x *expansion) give(l *pieces, p api.Part, values ...string) bool {
	if p.Text == "*" && p.Quote {
		l.text(p, chars.Join(x.between(), values...))
	} else {
		l.texts(p, values...)
	}
	return true
}

// length adds how many arguments, or how many bytes, a Var stands for.
func (l *pieces) length(p api.Part, values ...string) bool {
	n := len(values)
	if !every(p) {
		n = len(values[0])
	}
	l.text(p, chars.Text(n))
	return true
}

// inPlace adds a word in the place of p. A quoted part is a field even if the word comes to nothing.
func (x *expansion) inPlace(l *pieces, p api.Part, w api.Word) bool {
	if p.Quote {
		l.text(p, "")
	}
	return x.word(l, w, !p.Quote)
}

// assign sets p's variable to its Word, and adds that.
func (x *expansion) assign(l *pieces, p api.Part) bool {
	f, on := x.one(p.Word)
	if !on {
		return false
	}
	if e := x.vars.Set(p.Text, f.Text); e != api.OK {
		return x.fail(e)
	}
	l.text(p, f.Text)
	return true
}

// refuse ends the expansion with p's Word as its message.
func (x *expansion) refuse(p api.Part) bool {
	f, on := x.one(p.Word)
	if !on {
		return false
	}
	x.message = f.Text
	return x.fail(api.ErrSet)
}

// shorten gives p's values, from each of which cut takes what p's Word, as a pattern, fits.
func (x *expansion) shorten(l *pieces, p api.Part, values []string, cut func([]glob.Token, string) string) func() bool {
	return func() bool {
		f, on := x.one(p.Word)
		if !on {
			return false
		}
		pattern := glob.Parse(f.Text, f.Quoted)
		var shorter []string
		for _, s := range values {
			shorter = append(shorter, cut(pattern, s))
		}
		return x.give(l, p, shorter...)
	}
}
