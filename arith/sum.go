package arith

import (
	"conch/api"
	"conch/chars"
)

// sum is an expression that has been read: called, it is worked out over what is known of names.
type sum func(known *scope) (int, api.Errno)

// scope is what is known of names while an expression is worked out.
type scope struct {
	value   func(name string) string // the value ahead of all settings
	numbers map[string]int           // of the names that were asked or set
	sets    []Pair
}

// finder makes the function that searches vars for a name's value.
func finder(vars []Pair) func(name string) string {
	return func(name string) string {
		for _, p := range vars {
			if p.Name == name {
				return p.Value
			}
		}
		return ""
	}
}

// number is the one that a name has.
func (k *scope) number(name string) (int, api.Errno) {
	if n, there := k.numbers[name]; there {
		return n, api.OK
	}
	n, e := Value(k.value(name))
	if e == api.OK {
		k.numbers[name] = n
	}
	return n, e
}

// set gives a name a number.
func (k *scope) set(name string, n int) {
	k.numbers[name] = n
	k.sets = append(k.sets, Pair{Name: name, Value: chars.Text(n)})
}

// constant is a number's word.
func constant(n int) sum {
	return func(*scope) (int, api.Errno) { return n, api.OK }
}

// named is a name.
func named(name string) sum {
	return func(known *scope) (int, api.Errno) { return known.number(name) }
}

// turning is an operator ahead of an operand.
func turning(do func(a int) int, operand sum) sum {
	return func(known *scope) (int, api.Errno) {
		a, e := operand(known)
		if e != api.OK {
			return 0, e
		}
		return do(a), api.OK
	}
}

// joining is an operator between two operands.
func joining(op operator, left, right sum) sum {
	return func(known *scope) (int, api.Errno) {
		a, e := left(known)
		if e != api.OK {
			return 0, e
		}
		if op.enough != nil && op.enough(a) {
			// The right side changes nothing now, so that any number may stand for it.
			return op.apply(a, 0)
		}
		b, e := right(known)
		if e != api.OK {
			return 0, e
		}
		return op.apply(a, b)
	}
}

// choosing is one of two expressions, as c says.
func choosing(c, yes, no sum) sum {
	return func(known *scope) (int, api.Errno) {
		n, e := c(known)
		if e != api.OK {
			return 0, e
		}
		if holds(n) {
			return yes(known)
		}
		return no(known)
	}
}

// setting gives a name what an expression is; what it had isn't asked.
func setting(name string, value sum) sum {
	return func(known *scope) (int, api.Errno) {
		n, e := value(known)
		if e == api.OK {
			known.set(name, n)
		}
		return n, e
	}
}

// changing gives a name what an operator makes of its number, asked for behind the expression, and of that.
func changing(name string, op operator, by sum) sum {
	return setting(name, func(known *scope) (int, api.Errno) {
		b, e := by(known)
		if e != api.OK {
			return 0, e
		}
		a, e := known.number(name)
		if e != api.OK {
			return 0, e
		}
		return op.apply(a, b)
	})
}
