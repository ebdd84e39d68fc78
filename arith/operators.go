package arith

import "conch/api"

// operator is what stands between two operands.
type operator struct {
	rank int // the greater, the stronger it binds
	do   func(a, b int) int
	// enough tells of the left side whether the right one is passed over; nil: it never is.
	enough  func(a int) bool
	divides bool // the right side may not be 0
}

// weakest is the lowest rank of an operator; that of the zero operator, which is none, is below it.
const weakest = 1

// operators are what operators do, by the bytes they are written as.
type operators struct {
	between map[string]operator
	ahead   map[string]func(a int) int
}

// allOperators makes the tables: Go's numbers wrap, divide and shift as the document's do,
// but for dividing by 0 and for shifts by other numbers than 0 to 63.
func allOperators() operators {
	return operators{
		between: map[string]operator{
			"||": {rank: weakest, do: func(a, b int) int { return truth(holds(a) || holds(b)) }, enough: holds},
			"&&": {rank: 2, do: func(a, b int) int { return truth(holds(a) && holds(b)) }, enough: fails},
			"|":  {rank: 3, do: func(a, b int) int { return a | b }},
			"^":  {rank: 4, do: func(a, b int) int { return a ^ b }},
			"&":  {rank: 5, do: func(a, b int) int { return a & b }},
			"==": {rank: 6, do: func(a, b int) int { return truth(a == b) }},
			"!=": {rank: 6, do: func(a, b int) int { return truth(a != b) }},
			"<":  {rank: 7, do: func(a, b int) int { return truth(a < b) }},
			"<=": {rank: 7, do: func(a, b int) int { return truth(a <= b) }},
			">":  {rank: 7, do: func(a, b int) int { return truth(a > b) }},
			">=": {rank: 7, do: func(a, b int) int { return truth(a >= b) }},
			"<<": {rank: 8, do: func(a, b int) int { return a << (b & 63) }},
			">>": {rank: 8, do: func(a, b int) int { return a >> (b & 63) }},
			"+":  {rank: 9, do: func(a, b int) int { return a + b }},
			"-":  {rank: 9, do: func(a, b int) int { return a - b }},
			"*":  {rank: 10, do: func(a, b int) int { return a * b }},
			"/":  {rank: 10, do: func(a, b int) int { return a / b }, divides: true},
			"%":  {rank: 10, do: func(a, b int) int { return a % b }, divides: true},
		},
		ahead: map[string]func(a int) int{
			"+": func(a int) int { return a },
			"-": func(a int) int { return -a },
			"!": func(a int) int { return truth(fails(a)) },
			"~": func(a int) int { return ^a },
		},
	}
}

// holds tells whether a number counts as yes, fails whether it counts as no.
func holds(a int) bool { return a != 0 }
func fails(a int) bool { return a == 0 }

// truth is 1 for yes, and 0 for no.
func truth(yes bool) int {
	if yes {
		return 1
	}
	return 0
}

// apply is what the operator makes of two numbers.
func (o operator) apply(a, b int) (int, api.Errno) {
	if o.divides && b == 0 {
		return 0, api.ErrDiv
	}
	return o.do(a, b), api.OK
}
