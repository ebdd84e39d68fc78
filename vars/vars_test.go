package vars_test

import (
	"slices"
	"strings"
	"testing"

	"conch/api"
	"conch/vars"
)

// noNames are texts that are no names.
var noNames = []string{
	"", "0", "1", "1x", "9_", "-", "a-b", "a b", " a", "a ", "a\n", "a=", "a=b", "=", "a.b", "@", "*", "#", "?", "$", "$a", "!",
	"a\x00", "\x00", "\xe1", "a\xe1", "é", "x[", "x`", "x{", "x@", "x/", "x:", strings.Repeat("a", 5000) + "-",
}

// wantErrors holds errors against those that are asked for, one by one.
func wantErrors(t *testing.T, got []api.Errno, want ...api.Errno) {
	t.Helper()
	if !slices.Equal(got, want) {
		t.Errorf("errors %v, want %v", got, want)
	}
}

// wantGet holds what Get answers, and what Param does of the same name, against a value.
func wantGet(t *testing.T, v *vars.Vars, name, value string, set bool) {
	t.Helper()
	if s, is := v.Get(name); s != value || is != set {
		t.Errorf("Get(%q) = %q, %v, want %q, %v", name, s, is, value, set)
	}
	if s, is := v.Param(name); s != value || is != set {
		t.Errorf("Param(%q) = %q, %v, want %q, %v", name, s, is, value, set)
	}
}

// wantAll holds the variables that are there against others.
func wantAll(t *testing.T, v *vars.Vars, want ...vars.Var) {
	t.Helper()
	if l := v.All(); !slices.Equal(l, want) {
		t.Errorf("All() = %v, want %v", l, want)
	}
}

// wantEnv holds what is exported against texts.
func wantEnv(t *testing.T, v *vars.Vars, want ...string) {
	t.Helper()
	if l := v.Env(); !slices.Equal(l, want) {
		t.Errorf("Env() = %q, want %q", l, want)
	}
}

// P8.1: what is new has no variables, the arguments handed in, and the status 0.
func TestNew(t *testing.T) {
	for _, args := range [][]string{nil, {}, {""}, {"a"}, {"a", "b", ""}} {
		v := vars.New("sh", args...)
		if v == nil {
			t.Fatal("New answers nil")
		}
		wantAll(t, v)
		wantEnv(t, v)
		wantArgs(t, v, args...)
		wantParam(t, v, "0", "sh", true)
		wantParam(t, v, "?", "0", true)
		if n := v.Status(); n != 0 {
			t.Errorf("Status() = %d, want 0", n)
		}
	}
	wantParam(t, vars.New(""), "0", "", true)
	wantParam(t, vars.New("a b\n\xff"), "0", "a b\n\xff", true)
}

// P8.1: values of any bytes, the empty one among them, which is a value, too; and over one that is there.
func TestSet(t *testing.T) {
	v := vars.New("sh")
	for _, name := range []string{"x", "_", "X9", "if", "IFS", strings.Repeat("n", 5000)} {
		wantGet(t, v, name, "", false)
		for _, value := range []string{"1", "", "a b", "a=b", "\x00\n\xff", "x", strings.Repeat("v", 5000), ""} {
			if e := v.Set(name, value); e != api.OK {
				t.Errorf("Set(%.9q, %.9q) = %v", name, value, e)
			}
			wantGet(t, v, name, value, true)
		}
	}
	wantGet(t, v, "X", "", false)
	wantGet(t, v, "i", "", false)
}

// P8.1: names are told apart byte by byte.
func TestNamesApart(t *testing.T) {
	v := vars.New("sh")
	v.Set("x", "1")
	v.Set("X", "2")
	v.Set("x1", "3")
	v.Set("x_", "4")
	for name, value := range map[string]string{"x": "1", "X": "2", "x1": "3", "x_": "4"} {
		wantGet(t, v, name, value, true)
	}
	v.Readonly("X")
	wantErrors(t, []api.Errno{v.Set("x", "5"), v.Set("X", "6"), v.Unset("x1")}, api.OK, api.ErrRead, api.OK)
	wantAll(t, v, vars.Var{Name: "X", Value: "2", Set: true, Readonly: true}, vars.Var{Name: "x", Value: "5", Set: true}, vars.Var{Name: "x_", Value: "4", Set: true})
}

// P8.1: what is no name is refused by each call that takes one, and nothing is changed.
func TestNoNames(t *testing.T) {
	v := vars.New("sh", "a")
	v.Set("x", "1")
	for _, name := range noNames {
		wantErrors(t, []api.Errno{v.Set(name, "v"), v.Export(name), v.Readonly(name), v.Unset(name), v.Set(name, "")},
			api.ErrName, api.ErrName, api.ErrName, api.ErrName, api.ErrName)
		if s, is := v.Get(name); s != "" || is {
			t.Errorf("Get(%.9q) = %q, %v, want nothing, false", name, s, is)
		}
	}
	wantAll(t, v, vars.Var{Name: "x", Value: "1", Set: true})
	wantEnv(t, v)
	wantArgs(t, v, "a")
}

// P8.1, P8.2: each call on a variable that is not there.
func TestNotThere(t *testing.T) {
	v := vars.New("sh")
	wantErrors(t, []api.Errno{v.Unset("x")}, api.OK)
	wantAll(t, v)
	wantErrors(t, []api.Errno{v.Export("e"), v.Readonly("r"), v.Set("s", "")}, api.OK, api.OK, api.OK)
	wantAll(t, v, vars.Var{Name: "e", Export: true}, vars.Var{Name: "r", Readonly: true}, vars.Var{Name: "s", Set: true})
	for name, set := range map[string]bool{"e": false, "r": false, "s": true, "x": false} {
		wantGet(t, v, name, "", set)
	}
	wantEnv(t, v)
}

// P8.1: what Unset takes away, and what it does not give back: neither the value nor the export.
func TestUnset(t *testing.T) {
	v := vars.New("sh")
	v.Set("x", "1")
	v.Export("x")
	v.Set("y", "2")
	v.Export("z")
	wantErrors(t, []api.Errno{v.Unset("x"), v.Unset("y"), v.Unset("z"), v.Unset("z")}, api.OK, api.OK, api.OK, api.OK)
	wantAll(t, v)
	wantEnv(t, v)
	wantGet(t, v, "x", "", false)
	v.Export("x")
	wantAll(t, v, vars.Var{Name: "x", Export: true})
	wantEnv(t, v)
	v.Unset("x")
	v.Set("x", "3")
	v.Set("z", "4")
	wantAll(t, v, vars.Var{Name: "x", Value: "3", Set: true}, vars.Var{Name: "z", Value: "4", Set: true})
	wantEnv(t, v)
}

// P8.1, P8.6: what may only be read is neither set nor unset, whether it has a value or not; it may still be exported.
func TestReadonly(t *testing.T) {
	for _, set := range []bool{false, true} {
		for _, export := range []bool{false, true} {
			v := vars.New("sh")
			x := vars.Var{Name: "x", Set: set, Export: export, Readonly: true}
			if set {
				x.Value = "1"
				v.Set("x", "1")
			}
			if export {
				v.Export("x")
			}
			wantErrors(t, []api.Errno{v.Readonly("x"), v.Set("x", "2"), v.Set("x", x.Value), v.Unset("x"), v.Readonly("x"), v.Set("x", ""), v.Unset("x")},
				api.OK, api.ErrRead, api.ErrRead, api.ErrRead, api.OK, api.ErrRead, api.ErrRead)
			wantAll(t, v, x)
			wantGet(t, v, "x", x.Value, set)
			wantErrors(t, []api.Errno{v.Export("x"), v.Unset("x")}, api.OK, api.ErrRead)
			x.Export = true
			wantAll(t, v, x)
		}
	}
}

// inOrder are names in the order of their bytes: digits, great letters, the line, small letters; the shorter one ahead.
var inOrder = []string{"A", "A0", "AA", "A_", "Aa", "B", "Z", "Z9", "_", "_0", "_9", "_A", "__", "_a", "a", "a0", "a00", "a1", "a10", "a2", "aA", "a_", "aa", "ab", "b", "z", "zz"}

// P8.2: All and Env go by the names, byte by byte, in whatever order they came to be.
func TestOrder(t *testing.T) {
	for step := 1; step < len(inOrder); step++ {
		v := vars.New("sh")
		var all []vars.Var
		var env []string
		for i, name := range inOrder {
			all = append(all, vars.Var{Name: name, Value: "=" + name, Set: i%4 != 0, Export: i%3 != 0, Readonly: i%5 == 0})
			x := &all[len(all)-1]
			if !x.Set {
				x.Value = ""
			}
			if x.Set && x.Export {
				env = append(env, name+"=="+name)
			}
		}
		all = slices.DeleteFunc(all, func(x vars.Var) bool { return !x.Set && !x.Export && !x.Readonly })
		for from := range step {
			for i := from; i < len(all); i += step {
				lay(v, all[i])
			}
		}
		wantAll(t, v, all...)
		wantEnv(t, v, env...)
		wantAll(t, v, all...)
	}
}

// lay makes a variable what it is to be.
func lay(v *vars.Vars, x vars.Var) {
	if x.Set {
		v.Set(x.Name, x.Value)
	}
	if x.Export {
		v.Export(x.Name)
	}
	if x.Readonly {
		v.Readonly(x.Name)
	}
}

// P8.2: a name that is the front of another one stands ahead of it, though `=` is above the digits.
func TestEnvGoesByNames(t *testing.T) {
	v := vars.New("sh")
	for _, name := range []string{"x0", "x", "xA", "x9"} {
		v.Set(name, "")
		v.Export(name)
	}
	wantEnv(t, v, "x=", "x0=", "x9=", "xA=")
}

// P8.2: Env leaves out what is not set, and what is not exported; it has the empty value.
func TestEnv(t *testing.T) {
	v := vars.New("sh")
	v.Set("a", "1")
	v.Export("b")
	v.Readonly("c")
	v.Export("c")
	wantEnv(t, v)
	v.Export("a")
	v.Set("b", "")
	v.Set("d", "x")
	v.Readonly("d")
	wantEnv(t, v, "a=1", "b=")
	v.Export("d")
	v.Set("a", "c=d\n=")
	wantEnv(t, v, "a=c=d\n=", "b=", "d=x")
	v.Unset("b")
	v.Set("b", "3")
	wantEnv(t, v, "a=c=d\n=", "d=x")
}

// P8.2: many variables, each as it was set.
func TestMany(t *testing.T) {
	v := vars.New("sh")
	var want []vars.Var
	for i := range 10000 {
		name := "v" + string([]byte{'0' + byte(i/1000), '0' + byte(i/100%10), '0' + byte(i/10%10), '0' + byte(i%10)})
		want = append(want, vars.Var{Name: name, Value: name[1:], Set: true})
	}
	for i := range want {
		x := want[i*7919%len(want)]
		v.Set(x.Name, x.Value)
	}
	wantAll(t, v, want...)
}
