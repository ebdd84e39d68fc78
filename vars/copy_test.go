package vars_test

import (
	"testing"

	"conch/api"
	"conch/vars"
)

// some makes an object with something of each kind in it.
func some() *vars.Vars {
	v := vars.New("sh", "a", "b", "c")
	v.Set("x", "1")
	v.Set("y", "2")
	v.Export("y")
	v.Export("e")
	v.Readonly("r")
	v.SetStatus(3)
	return v
}

// wantSome tells whether an object is as some makes it.
func wantSome(t *testing.T, v *vars.Vars) {
	t.Helper()
	wantAll(t, v, vars.Var{Name: "e", Export: true}, vars.Var{Name: "r", Readonly: true}, vars.Var{Name: "x", Value: "1", Set: true}, vars.Var{Name: "y", Value: "2", Set: true, Export: true})
	wantEnv(t, v, "y=2")
	wantArgs(t, v, "a", "b", "c")
	wantParam(t, v, "0", "sh", true)
	wantParam(t, v, "?", "3", true)
	if n := v.Status(); n != 3 {
		t.Errorf("Status() = %d, want 3", n)
	}
	wantGet(t, v, "x", "1", true)
	wantGet(t, v, "e", "", false)
}

// changes are each what turns an object, of one thing alone.
var changes = map[string]func(v *vars.Vars){
	"set":      func(v *vars.Vars) { v.Set("x", "9") },
	"set new":  func(v *vars.Vars) { v.Set("n", "9") },
	"set e":    func(v *vars.Vars) { v.Set("e", "9") },
	"unset":    func(v *vars.Vars) { v.Unset("y") },
	"export":   func(v *vars.Vars) { v.Export("x") },
	"export n": func(v *vars.Vars) { v.Export("n") },
	"readonly": func(v *vars.Vars) { v.Readonly("y") },
	"args":     func(v *vars.Vars) { v.SetArgs("d", "e", "f") },
	"no args":  func(v *vars.Vars) { v.SetArgs() },
	"shift":    func(v *vars.Vars) { v.Shift(1) },
	"shift 3":  func(v *vars.Vars) { v.Shift(3) },
	"status":   func(v *vars.Vars) { v.SetStatus(4) },
}

// P8.5: a copy has all the same, and neither minds what happens to the other one.
func TestCopy(t *testing.T) {
	v := some()
	wantSome(t, v.Copy())
	wantSome(t, v.Copy().Copy())
	wantSome(t, v)
	for name, change := range changes {
		t.Run(name, func(t *testing.T) {
			v := some()
			w := v.Copy()
			change(w)
			wantSome(t, v)
			wantSome(t, v.Copy())
			v = some()
			w = v.Copy()
			change(v)
			wantSome(t, w)
			wantSome(t, w.Copy())
		})
	}
}

// P8.5, R3: a copy goes on as what it is a copy of, also where something was changed ahead of it.
func TestCopyGoesOn(t *testing.T) {
	v := some()
	v.Readonly("x")
	v.Shift(1)
	w := v.Copy()
	for _, o := range []*vars.Vars{v, w} {
		wantErrors(t, []api.Errno{o.Set("x", "2"), o.Unset("r"), o.Set("e", "5"), o.Shift(3), o.Shift(1), o.Unset("y")},
			api.ErrRead, api.ErrRead, api.OK, api.ErrArg, api.OK, api.OK)
		wantArgs(t, o, "c")
		wantEnv(t, o, "e=5")
		wantAll(t, o, vars.Var{Name: "e", Value: "5", Set: true, Export: true}, vars.Var{Name: "r", Readonly: true}, vars.Var{Name: "x", Value: "1", Set: true, Readonly: true})
	}
}

// P8.5: copies of what has nothing in it may be written to.
func TestCopyOfNothing(t *testing.T) {
	v := vars.New("")
	w := v.Copy()
	wantErrors(t, []api.Errno{w.Set("x", "1"), w.Export("x")}, api.OK, api.OK)
	w.SetArgs("a")
	wantEnv(t, w, "x=1")
	wantArgs(t, w, "a")
	wantAll(t, v)
	wantArgs(t, v)
	wantErrors(t, []api.Errno{v.Set("y", "2")}, api.OK)
	wantGet(t, w, "y", "", false)
}

// P8.5: two objects of New share nothing.
func TestTwoOfNew(t *testing.T) {
	args := []string{"a", "b", "c"}
	v, w := vars.New("sh", args...), vars.New("sh", args...)
	v.Set("x", "1")
	v.Shift(2)
	v.SetStatus(1)
	wantAll(t, w)
	wantArgs(t, w, "a", "b", "c")
	wantParam(t, w, "?", "0", true)
}

// R1, P8.5: a nil object at each call; ErrNil is named first, ahead of the name's and the number's errors.
func TestNil(t *testing.T) {
	var v *vars.Vars
	for _, name := range []string{"x", "", "1x"} {
		wantErrors(t, []api.Errno{v.Set(name, "1"), v.Unset(name), v.Export(name), v.Readonly(name)}, api.ErrNil, api.ErrNil, api.ErrNil, api.ErrNil)
		if s, is := v.Get(name); s != "" || is {
			t.Errorf("Get(%q) = %q, %v", name, s, is)
		}
	}
	for _, n := range []int{-1, 0, 1} {
		wantErrors(t, []api.Errno{v.Shift(n)}, api.ErrNil)
	}
	v.SetArgs()
	v.SetArgs("a", "b")
	v.SetStatus(3)
	if n := v.Status(); n != 0 {
		t.Errorf("Status() = %d", n)
	}
	if v.Copy() != nil {
		t.Error("the Copy of nil is not nil")
	}
	if len(v.All())+len(v.Env())+len(v.Args()) != 0 {
		t.Error("lists of nil:", v.All(), v.Env(), v.Args())
	}
	for _, p := range []string{"x", "0", "1", "00", "#", "?", "@", "*", "", "-"} {
		wantParam(t, v, p, "", false)
	}
}

// R1: what New did not make is as what it makes of nothing.
func TestZeroValue(t *testing.T) {
	for name, change := range changes {
		v, w := &vars.Vars{}, vars.New("")
		change(v)
		change(w)
		wantAll(t, v, w.All()...)
		wantEnv(t, v, w.Env()...)
		wantArgs(t, v, w.Args()...)
		wantParam(t, v, "0", "", true)
		if v.Status() != w.Status() {
			t.Errorf("%s: Status() = %d, want %d", name, v.Status(), w.Status())
		}
	}
	v := new(vars.Vars)
	wantErrors(t, []api.Errno{v.Unset("x"), v.Shift(0), v.Shift(1)}, api.OK, api.OK, api.ErrArg)
	w := v.Copy()
	wantErrors(t, []api.Errno{w.Set("x", "1"), v.Readonly("x"), v.Set("x", "")}, api.OK, api.OK, api.ErrRead)
	wantAll(t, v, vars.Var{Name: "x", Readonly: true})
}

// R2: what is handed in may be written into afterwards, and is not written into, nor what stands behind its length.
func TestHandedIn(t *testing.T) {
	held := []string{"a", "b", "c", "behind"}
	handed := held[:3]
	v := some()
	w := vars.New("sh", handed...)
	v.SetArgs(handed...)
	for _, o := range []*vars.Vars{v, w} {
		o.Shift(1)
		o.Copy().Shift(2)
		o.SetArgs(append(o.Args(), "d")...)
	}
	if held[0] != "a" || held[1] != "b" || held[2] != "c" || held[3] != "behind" {
		t.Errorf("what was handed in is %q", held)
	}
	v.SetArgs(handed...)
	w = vars.New("sh", handed...)
	held[0], held[2] = "X", "Y"
	wantArgs(t, v, "a", "b", "c")
	wantArgs(t, w, "a", "b", "c")
}

// R2, P8.5: what is answered may be written into, and added to, without turning the object, and the object does not turn it.
func TestAnswered(t *testing.T) {
	v := some()
	all, env, args := v.All(), v.Env(), v.Args()
	for i := range all {
		all[i] = vars.Var{Name: "w"}
	}
	env[0], args[0], args[2] = "w", "w", "w"
	_ = append(all[:1], all...)
	_ = append(env[:0], "w", "w")
	_ = append(args[:1], "w", "w", "w", "w")
	wantSome(t, v)

	all, env, args = v.All(), v.Env(), v.Args()
	again := v.Args()
	again[1] = "w"
	for _, change := range changes {
		change(v)
	}
	if len(all) != 4 || all[3] != (vars.Var{Name: "y", Value: "2", Set: true, Export: true}) || all[2] != (vars.Var{Name: "x", Value: "1", Set: true}) {
		t.Error("what All answered became", all)
	}
	if len(env) != 1 || env[0] != "y=2" || len(args) != 3 || args[0] != "a" || args[1] != "b" || args[2] != "c" {
		t.Error("what was answered became", env, args)
	}
	v.SetArgs("p", "q", "r")
	args = v.Args()
	v.Shift(2)
	_ = append(args[:2], "w")
	wantArgs(t, v, "r")
	if args[0] != "p" || args[1] != "q" {
		t.Error("what Args answered became", args)
	}
}

// R3: asking turns nothing.
func TestAsking(t *testing.T) {
	v := some()
	for range 2 {
		v.Get("none")
		v.Get("1")
		v.Param("none")
		v.Param("99")
		v.All()
		v.Env()
		v.Args()
		v.Status()
		v.Copy()
		wantSome(t, v)
	}
}

// The chapter's examples.
func TestExamples(t *testing.T) {
	v := vars.New("sh", "a", "b")
	wantParam(t, v, "1", "a", true)
	wantParam(t, v, "3", "", false)
	wantParam(t, v, "#", "2", true)
	wantParam(t, v, "@", "a b", true)
	wantErrors(t, []api.Errno{v.Set("x", "1"), v.Readonly("x"), v.Set("x", "2"), v.Unset("x")}, api.OK, api.OK, api.ErrRead, api.ErrRead)
	wantGet(t, v, "x", "1", true)
	wantErrors(t, []api.Errno{v.Set("1x", ""), v.Export("y")}, api.ErrName, api.OK)
	wantEnv(t, v)
	wantErrors(t, []api.Errno{v.Set("y", "2")}, api.OK)
	wantEnv(t, v, "y=2")
	wantErrors(t, []api.Errno{v.Shift(3), v.Shift(1)}, api.ErrArg, api.OK)
	wantArgs(t, v, "b")
}
