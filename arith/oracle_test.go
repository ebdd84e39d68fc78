package arith_test

import (
	"math/big"
	"regexp"
	"slices"
	"strings"

	"conch/api"
	"conch/arith"
)

// node is an expression of the oracle: a number's word and a name without parts, anything else with them.
type node struct {
	op    string // "number", "name", "set", "?", "ahead " and an operator, or an operator between two parts
	word  string // of a number its word; of a name, and of a setting, the name
	sign  string // of a setting what stands ahead of =
	parts []*node
}

// ranks are the operators between two parts, the weakest ones first.
var ranks = [][]string{
	{"||"}, {"&&"}, {"|"}, {"^"}, {"&"}, {"==", "!="}, {"<", "<=", ">", ">="}, {"<<", ">>"}, {"+", "-"}, {"*", "/", "%"},
}

var (
	nameOnly   = regexp.MustCompile(`^[A-Za-z_][A-Za-z_0-9]*$`)
	numberOnly = regexp.MustCompile(`^(0[xX][0-9a-fA-F]+|0[0-7]*|[1-9][0-9]*)$`)
	settingOf  = regexp.MustCompile(`(?s)^([A-Za-z_][A-Za-z_0-9]*)[ \t\n]*([-+*/%]?)=(.*)$`)
	greatest   = new(big.Int).Sub(new(big.Int).Lsh(big.NewInt(1), 63), big.NewInt(1))
	least      = new(big.Int).Neg(new(big.Int).Lsh(big.NewInt(1), 63))
)

// cuts are the answers of parts of a text that were asked before, by rank.
type cuts map[string]map[int]*node

// expression is what s is by the grammar, of the rank or a stronger one; nil: nothing.
// It tries each place where a text may be cut in two or three, so that nothing has to be read ahead.
func (m cuts) expression(s string, rank int) *node {
	s = strings.Trim(s, " \t\n")
	if n, ok := m[s][rank]; ok {
		return n
	}
	n := m.tried(s, rank)
	if m[s] == nil {
		m[s] = map[int]*node{}
	}
	m[s][rank] = n
	return n
}

func (m cuts) tried(s string, rank int) *node {
	last := len(ranks) + 2
	switch {
	case s == "":
		return nil
	case rank == 0:
		if p := settingOf.FindStringSubmatch(s); p != nil {
			if e := m.expression(p[3], 0); e != nil {
				return &node{op: "set", word: p[1], sign: p[2], parts: []*node{e}}
			}
		}
	case rank == 1:
		if n := m.chosen(s); n != nil {
			return n
		}
	case rank < last:
		if n := m.joined(s, rank); n != nil {
			return n
		}
	case rank == last:
		if strings.Contains("+-!~", s[:1]) {
			if e := m.expression(s[1:], last); e != nil {
				return &node{op: "ahead " + s[:1], parts: []*node{e}}
			}
		}
	default:
		return m.single(s)
	}
	return m.expression(s, rank+1)
}

func (m cuts) chosen(s string) *node {
	for i := range len(s) {
		for j := i + 1; j < len(s) && s[i] == '?'; j++ {
			if s[j] != ':' {
				continue
			}
			c, yes, no := m.expression(s[:i], 2), m.expression(s[i+1:j], 0), m.expression(s[j+1:], 1)
			if c != nil && yes != nil && no != nil {
				return &node{op: "?", parts: []*node{c, yes, no}}
			}
		}
	}
	return nil
}

func (m cuts) joined(s string, rank int) *node {
	for _, op := range ranks[rank-2] {
		for i := range len(s) {
			if !strings.HasPrefix(s[i:], op) {
				continue
			}
			a, b := m.expression(s[:i], rank), m.expression(s[i+len(op):], rank+1)
			if a != nil && b != nil {
				return &node{op: op, parts: []*node{a, b}}
			}
		}
	}
	return nil
}

func (m cuts) single(s string) *node {
	switch {
	case nameOnly.MatchString(s):
		return &node{op: "name", word: s}
	case numberOnly.MatchString(s):
		if n := numberOf(s); n.Cmp(greatest) <= 0 {
			return &node{op: "number", word: s}
		}
	case s[0] == '(' && s[len(s)-1] == ')':
		return m.expression(s[1:len(s)-1], 0)
	}
	return nil
}

// numberOf is the number of a number's word, however great.
func numberOf(word string) *big.Int {
	base := 10
	if strings.HasPrefix(word, "0") {
		base = 8
	}
	if len(word) > 1 && (word[1] == 'x' || word[1] == 'X') {
		base, word = 16, word[2:]
	}
	n, _ := new(big.Int).SetString(word, base)
	return n
}

// wantValue is what P3.1 asks of Value.
func wantValue(s string) (int, api.Errno) {
	s = strings.Trim(s, " \t\n")
	if s == "" {
		return 0, api.OK
	}
	word := s
	if s[0] == '+' || s[0] == '-' {
		word = s[1:]
	}
	if !numberOnly.MatchString(word) {
		return 0, api.ErrSyntax
	}
	n := numberOf(word)
	if s[0] == '-' {
		n.Neg(n)
	}
	if n.Cmp(greatest) > 0 || n.Cmp(least) < 0 {
		return 0, api.ErrSyntax
	}
	return int(n.Int64()), api.OK
}

// work is an expression that is worked out; what goes wrong is a panic with an Errno.
type work struct{ pairs []arith.Pair } // the newest ones first
type settings []arith.Pair

func (w *work) value(name string) *big.Int {
	i := slices.IndexFunc(w.pairs, func(p arith.Pair) bool { return p.Name == name })
	if i < 0 {
		return new(big.Int)
	}
	n, e := wantValue(w.pairs[i].Value)
	if e != api.OK {
		panic(e)
	}
	return big.NewInt(int64(n))
}

// done works n out and adds what it sets to l.
func (w *work) done(n *node, l *settings) *big.Int {
	part := func(i int) *big.Int { return w.done(n.parts[i], l) }
	switch n.op {
	case "number":
		return numberOf(n.word)
	case "name":
		return w.value(n.word)
	case "set":
		k := part(0)
		if n.sign != "" {
			k = calculated(n.sign, w.value(n.word), k)
		}
		p := arith.Pair{Name: n.word, Value: k.String()}
		w.pairs = slices.Insert(w.pairs, 0, p)
		*l = append(*l, p)
		return k
	case "?":
		if part(0).Sign() != 0 {
			return part(1)
		}
		return part(2)
	case "&&":
		return bit(part(0).Sign() != 0 && part(1).Sign() != 0)
	case "||":
		return bit(part(0).Sign() != 0 || part(1).Sign() != 0)
	case "ahead +":
		return part(0)
	case "ahead -":
		return calculated("-", new(big.Int), part(0))
	case "ahead ~":
		return new(big.Int).Not(part(0))
	case "ahead !":
		return bit(part(0).Sign() == 0)
	}
	a := part(0)
	return calculated(n.op, a, part(1))
}

func bit(yes bool) *big.Int {
	if yes {
		return big.NewInt(1)
	}
	return new(big.Int)
}

// calculated is what an operator makes of two numbers, by numbers without an end.
func calculated(op string, a, b *big.Int) *big.Int {
	n, sixty4 := new(big.Int), new(big.Int).Lsh(big.NewInt(1), 64)
	if b.Sign() == 0 && (op == "/" || op == "%") {
		panic(api.ErrDiv)
	}
	by := uint(new(big.Int).Mod(b, big.NewInt(64)).Int64())
	switch op {
	case "+":
		n.Add(a, b)
	case "-":
		n.Sub(a, b)
	case "*":
		n.Mul(a, b)
	case "/":
		n.Quo(a, b)
	case "%":
		n.Rem(a, b)
	case "|":
		n.Or(a, b)
	case "^":
		n.Xor(a, b)
	case "&":
		n.And(a, b)
	case "<<":
		n.Lsh(a, by)
	case ">>":
		n.Rsh(a, by)
	case "==":
		n = bit(a.Cmp(b) == 0)
	case "!=":
		n = bit(a.Cmp(b) != 0)
	case "<":
		n = bit(a.Cmp(b) < 0)
	case "<=":
		n = bit(a.Cmp(b) <= 0)
	case ">":
		n = bit(a.Cmp(b) > 0)
	case ">=":
		n = bit(a.Cmp(b) >= 0)
	default:
		panic("no operator: " + op)
	}
	n.Sub(n, least)
	n.Mod(n, sixty4)
	return n.Add(n, least)
}

// wantNode is what is worked out of n.
func wantNode(n *node, vars []arith.Pair) (k int, l settings, e api.Errno) {
	defer func() {
		if r := recover(); r != nil {
			k, l, e = 0, nil, r.(api.Errno)
		}
	}()
	w := work{pairs: slices.Clone(vars)}
	k = int(w.done(n, &l).Int64())
	return k, l, api.OK
}

// wantEval is what P3.2 asks of Eval.
func wantEval(s string, vars []arith.Pair) (int, settings, api.Errno) {
	if len(s) > 4096 {
		return 0, nil, api.ErrBig
	}
	if strings.Trim(s, " \t\n") == "" {
		return 0, nil, api.OK
	}
	n := cuts{}.expression(s, 0)
	if n == nil {
		return 0, nil, api.ErrSyntax
	}
	return wantNode(n, vars)
}
