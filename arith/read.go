package arith

import (
	"math"
	"strings"

	"conch/api"
	"conch/chars"
)

// reader takes an expression apart, from the front on.
type reader struct {
	operators
	rest   string
	failed bool
}

// read is the expression that all of s is.
func read(s string) (sum, api.Errno) {
	r := reader{operators: allOperators(), rest: s}
	whole := r.expression()
	r.skip()
	if r.failed || r.rest != "" {
		return nil, api.ErrSyntax
	}
	return whole, api.OK
}

// fail leaves nothing to be read, so that all that is begun ends; what it answers is never worked out.
func (r *reader) fail() sum {
	r.failed, r.rest = true, ""
	return nil
}

// skip passes over the gap ahead of a part.
func (r *reader) skip() { r.rest = strings.TrimLeft(r.rest, gaps) }

// take passes over a part, if it stands at the front, and tells whether it did.
func (r *reader) take(part string) bool {
	r.skip()
	rest, there := strings.CutPrefix(r.rest, part)
	r.rest = rest
	return there
}

// expression reads one of any rank.
func (r *reader) expression() sum {
	r.skip()
	name := r.rest[:chars.Front(r.rest)]
	op, behind, sets := settingSign(r.rest[len(name):])
	if name == "" || !sets {
		return r.choice()
	}
	r.rest = behind
	e := r.expression()
	if op == "" {
		return setting(name, e)
	}
	return changing(name, r.between[op], e)
}

// settingSign is the operator within the sign at the front of s by which a name is set (none within a mere =),
// what is behind that sign, and whether there is one.
func settingSign(s string) (op, behind string, sets bool) {
	s = strings.TrimLeft(s, gaps)
	for _, op := range []string{"", "+", "-", "*", "/", "%"} {
		behind, sets := strings.CutPrefix(s, op+"=")
		// The first half of == sets nothing; behind the other signs no = can stand either.
		if sets && !strings.HasPrefix(behind, "=") {
			return op, behind, true
		}
	}
	return "", "", false
}

// choice reads an expression that sets nothing, unless within brackets or between ? and :.
func (r *reader) choice() sum {
	c := r.operation(weakest)
	if !r.take("?") {
		return c
	}
	yes := r.expression()
	if !r.take(":") {
		return r.fail()
	}
	return choosing(c, yes, r.choice())
}

// operation reads operands and the operators between them of this rank and of stronger ones.
func (r *reader) operation(rank int) sum {
	left := r.operand()
	for {
		op, written := r.operator()
		if op.rank < rank {
			return left
		}
		r.take(written)
		left = joining(op, left, r.operation(op.rank+1))
	}
}

// operator is the longest one at the front, and how it is written; the zero one, if there is none.
func (r *reader) operator() (operator, string) {
	r.skip()
	for n := min(2, len(r.rest)); n > 0; n-- {
		if op, there := r.between[r.rest[:n]]; there {
			return op, r.rest[:n]
		}
	}
	return operator{}, ""
}

// operand reads what binds strongest, with the operators ahead of it.
func (r *reader) operand() sum {
	r.skip()
	if r.rest == "" {
		return r.fail()
	}
	if do, there := r.ahead[r.rest[:1]]; there {
		r.rest = r.rest[1:]
		return turning(do, r.operand())
	}
	if r.take("(") {
		e := r.expression()
		if !r.take(")") {
			return r.fail()
		}
		return e
	}
	return r.word()
}

// word reads a name or a number's word.
func (r *reader) word() sum {
	// An Alpha or a Digit may not stand behind a number's word, so all of them belong to it, and it must be one with them.
	n := 0
	for n < len(r.rest) && (chars.Alpha(r.rest[n]) || chars.Digit(r.rest[n])) {
		n++
	}
	word := r.rest[:n]
	r.rest = r.rest[n:]
	if chars.Name(word) {
		return named(word)
	}
	k, e := number(word, math.MaxInt64)
	if e != api.OK {
		return r.fail()
	}
	return constant(int(k))
}
