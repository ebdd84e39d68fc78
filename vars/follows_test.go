package vars_test

import (
	"slices"
	"testing"

	"conch/api"
	"conch/vars"
)

// call is a call that may turn an object.
type call struct {
	what        string
	name, value string
	args        []string
	n           int
}

// do does it.
func (c call) do(v *vars.Vars) api.Errno {
	switch c.what {
	case "Set":
		return v.Set(c.name, c.value)
	case "Unset":
		return v.Unset(c.name)
	case "Export":
		return v.Export(c.name)
	case "Readonly":
		return v.Readonly(c.name)
	case "Shift":
		return v.Shift(c.n)
	case "SetArgs":
		v.SetArgs(c.args...)
	case "SetStatus":
		v.SetStatus(c.n)
	}
	return api.OK
}

// past is the calls that an object took: what it has now is told by going back through them.
type past []call

// last is the last call of these kinds on a name.
func (p past) last(name string, kinds ...string) call {
	for _, c := range slices.Backward(p) {
		if c.name == name && slices.Contains(kinds, c.what) {
			return c
		}
	}
	return call{}
}

// variable is one of a name.
func (p past) variable(name string) vars.Var {
	set := p.last(name, "Set", "Unset")
	return vars.Var{
		Name: name, Value: set.value, Set: set.what == "Set",
		Export:   p.last(name, "Export", "Unset").what == "Export",
		Readonly: p.last(name, "Readonly").what != "",
	}
}

// args is the arguments: those set last, without what was shifted behind that.
func (p past) args() []string {
	gone := 0
	for _, c := range slices.Backward(p) {
		switch c.what {
		case "Shift":
			gone += c.n
		case "SetArgs":
			return c.args[gone:]
		}
	}
	return nil
}

// wants is the error that a call is to answer.
func (p past) wants(c call) api.Errno {
	turns := c.what == "Set" || c.what == "Unset"
	switch {
	case c.name != "" && !slices.Contains(modelNames, c.name):
		return api.ErrName
	case turns && p.last(c.name, "Readonly").what != "":
		return api.ErrRead
	case c.what == "Shift" && (c.n < 0 || c.n > len(p.args())):
		return api.ErrArg
	}
	return api.OK
}

// modelNames are the names that calls are made with, in order.
var modelNames = []string{"A", "B1", "_", "a", "a1", "aB", "b"}

// holds tells whether an object has what its past says.
func (p past) holds(t *testing.T, v *vars.Vars) {
	t.Helper()
	var all []vars.Var
	var env []string
	for _, name := range modelNames {
		x := p.variable(name)
		if x.Set || x.Export || x.Readonly {
			all = append(all, x)
		}
		if x.Set && x.Export {
			env = append(env, name+"="+x.Value)
		}
		wantGet(t, v, name, x.Value, x.Set)
	}
	wantAll(t, v, all...)
	wantEnv(t, v, env...)
	wantArgs(t, v, p.args()...)
	if n := p.last("", "SetStatus").n; v.Status() != n {
		t.Errorf("Status() = %d, want %d", v.Status(), n)
	}
	if t.Failed() {
		t.Fatalf("behind %v", p)
	}
}

// take does a call, and has it be part of the past, unless it is to be refused.
func (p past) take(t *testing.T, v *vars.Vars, c call) past {
	t.Helper()
	want := p.wants(c)
	if e := c.do(v); e != want {
		t.Fatalf("%v = %v, want %v behind %v", c, e, want, p)
	}
	if want != api.OK {
		return p
	}
	return append(p[:len(p):len(p)], c)
}

// P8.1, P8.2, P8.6: a few calls in each order, on one variable that has another one beside it.
func TestEachOrder(t *testing.T) {
	calls := []call{
		{what: "Set", name: "a", value: "1"}, {what: "Set", name: "a"}, {what: "Unset", name: "a"}, {what: "Export", name: "a"}, {what: "Readonly", name: "a"},
		{what: "Set", name: "b", value: "2"}, {what: "Unset", name: "b"},
	}
	var walk func(v *vars.Vars, p past, left int)
	walk = func(v *vars.Vars, p past, left int) {
		p.holds(t, v)
		if left == 0 {
			return
		}
		for _, c := range calls {
			w := v.Copy()
			walk(w, p.take(t, w, c), left-1)
		}
		p.holds(t, v)
	}
	walk(vars.New("sh"), nil, 5)
}

// chooser makes calls by a rule that always goes the same way.
type chooser struct{ state uint64 }

// pick is a number from 0 to below n.
func (g *chooser) pick(n int) int {
	g.state = g.state*6364136223846793005 + 1442695040888963407
	return int(g.state >> 33 % uint64(n))
}

// texts makes up to n texts.
func (g *chooser) texts(n int) []string {
	l := []string{}
	for range g.pick(n + 1) {
		l = append(l, []string{"", "p", "q r", "=", "s\n"}[g.pick(5)])
	}
	return l
}

// call makes one.
func (g *chooser) call() call {
	name := modelNames[g.pick(len(modelNames))]
	if g.pick(20) == 0 {
		name = []string{"1a", "a-", "@", " "}[g.pick(4)]
	}
	switch g.pick(16) {
	case 0, 1, 2, 3, 4:
		return call{what: "Set", name: name, value: []string{"", "0", "v w", "=x", name}[g.pick(5)]}
	case 5, 6, 7:
		return call{what: "Unset", name: name}
	case 8, 9:
		return call{what: "Export", name: name}
	case 10:
		if g.pick(3) > 0 { // else all of them may only be read before long
			return call{what: "Export", name: name}
		}
		return call{what: "Readonly", name: name}
	case 11, 12:
		return call{what: "SetArgs", args: g.texts(5)}
	case 13, 14:
		return call{what: "Shift", n: g.pick(6) - 1}
	}
	return call{what: "SetStatus", n: g.pick(600) - 200}
}

// P8.3, P8.5, P8.6: long ways of several objects that are copies of one another; each has what its own past says.
func TestLongWays(t *testing.T) {
	for seed := range uint64(60) {
		g := chooser{state: seed}
		objects := []*vars.Vars{vars.New("sh")}
		pasts := []past{nil}
		for range 120 {
			i := g.pick(len(objects))
			if g.pick(12) == 0 {
				objects, pasts = append(objects, objects[i].Copy()), append(pasts, pasts[i])
				continue
			}
			pasts[i] = pasts[i].take(t, objects[i], g.call())
			for k, v := range objects {
				pasts[k].holds(t, v)
			}
		}
	}
}

// P8.6: what is set stays, whatever happens to others.
func TestStays(t *testing.T) {
	v := vars.New("sh", "a", "b")
	v.Set("x", "1")
	v.Set("c", "2")
	v.Readonly("c")
	g := chooser{state: 5}
	for range 3000 {
		c := g.call()
		c.do(v)
		wantGet(t, v, "x", "1", true)
		wantGet(t, v, "c", "2", true)
	}
	wantErrors(t, []api.Errno{v.Set("c", "3"), v.Unset("c"), v.Unset("x")}, api.ErrRead, api.ErrRead, api.OK)
	wantGet(t, v, "c", "2", true)
	wantGet(t, v, "x", "", false)
}
