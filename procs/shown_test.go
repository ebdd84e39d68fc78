package procs_test

import (
	"fmt"
	"slices"
	"strconv"
	"strings"
	"testing"

	"conch/api"
	"conch/procs"
)

const (
	most  = int(^uint(0) >> 1)
	least = -most - 1
	room  = 8
)

// none are numbers that no process has.
func none() []int { return []int{least, -1024, -1, 0, room + 1, 1024, 1025, most} }

// desk is a test, and a table that it tests.
type desk struct {
	*testing.T
	x *procs.Table
}

// process is what a table is to tell of one: its state is one of R, B and Z.
type process struct {
	pid, parent int
	state       byte
}

func (p process) String() string {
	s := strconv.Itoa(p.pid) + string(rune(p.state))
	if p.parent != 0 {
		s += "<" + strconv.Itoa(p.parent)
	}
	return s
}

// parsed is the processes of a text such as "1R 2B<1 4Z<2": 2 and 4 have the parents 1 and 2.
func parsed(t *testing.T, text string) []process {
	t.Helper()
	var out []process
	for _, f := range strings.Fields(text) {
		var p process
		one, parent, _ := strings.Cut(f, "<")
		if n, _ := fmt.Sscanf(one, "%d%c", &p.pid, &p.state); n != 2 {
			t.Fatalf("%q in %q", f, text)
		}
		p.parent, _ = strconv.Atoi(parent)
		out = append(out, p)
	}
	return out
}

// begun is a table without processes.
func begun(t *testing.T, room int) *desk {
	t.Helper()
	x, e := procs.New(room)
	does(t, "New", e, api.OK)
	d := &desk{T: t, x: x}
	d.tells("")
	return d
}

// made is a table of the processes of a text; a Zombie's status is 100 and its number.
func made(t *testing.T, text string) *desk {
	t.Helper()
	d, all := begun(t, room), parsed(t, text)
	for pid := range all[len(all)-1].pid {
		d.fork(0, pid+1)
	}
	there := map[int]bool{}
	for _, p := range all {
		there[p.pid] = p.parent == 0
	}
	d.bear(all, there)
	for _, pid := range rising(there) {
		if !there[pid] {
			t.Fatalf("%d of %q", pid, text)
		}
	}
	for pid := range all[len(all)-1].pid {
		if !there[pid+1] {
			d.does("Exit", d.x.Exit(pid+1, 0), api.OK)
		}
	}
	d.become(all)
	d.tells(text)
	return d
}

// bear makes each process anew whose parent is there, till all are: the others have no parent, and take up the other numbers.
func (d *desk) bear(all []process, there map[int]bool) {
	d.Helper()
	for range all {
		for _, p := range all {
			if !there[p.pid] && there[p.parent] {
				d.does("Exit", d.x.Exit(p.pid, 0), api.OK)
				d.fork(p.parent, p.pid)
				there[p.pid] = true
			}
		}
	}
}

// become gives each process its state.
func (d *desk) become(all []process) {
	d.Helper()
	for _, p := range all {
		if p.state == 'Z' {
			d.does("Exit", d.x.Exit(p.pid, 100+p.pid), api.OK)
		}
	}
	for _, p := range all {
		if p.state == 'B' {
			d.does("Block", d.x.Block(p.pid), api.OK)
		}
	}
}

func rising(of map[int]bool) []int {
	var out []int
	for n := range of {
		out = append(out, n)
	}
	slices.Sort(out)
	return out
}

// does holds what a call answered against what it is to answer.
func does(t *testing.T, name string, e, wrong api.Errno) {
	t.Helper()
	if e != wrong {
		t.Fatalf("%s: %d; want %d", name, int(e), int(wrong))
	}
}

func (d *desk) does(name string, e, wrong api.Errno) {
	d.Helper()
	does(d.T, name, e, wrong)
}

// shown is all that a table tells of its processes up to a number, which is as parsed takes it.
func shown(t *testing.T, x *procs.Table, upTo int) string {
	t.Helper()
	var all []string
	var ready []int
	for pid := -1; pid <= upTo; pid++ {
		state := x.State(pid)
		if state == 0 {
			if parent := x.Parent(pid); parent != 0 {
				t.Fatalf("Parent(%d), which is none: %d", pid, parent)
			}
			continue
		}
		if state == procs.Ready {
			ready = append(ready, pid)
		}
		all = append(all, process{pid, x.Parent(pid), "?RBZ"[state]}.String())
	}
	if got := x.Ready(); !slices.Equal(got, ready) {
		t.Fatalf("Ready: %v; want %v", got, ready)
	}
	if n := x.Many(); n != len(all) {
		t.Fatalf("Many: %d; want %d", n, len(all))
	}
	return strings.Join(all, " ")
}

// tells holds all that a table tells.
func (d *desk) tells(want string) {
	d.Helper()
	if got := shown(d.T, d.x, 1100); got != want {
		d.Fatalf("%q; want %q", got, want)
	}
}

// fork holds a Fork that makes this process: a Ready one more.
func (d *desk) fork(parent, want int) {
	d.Helper()
	was := parsed(d.T, shown(d.T, d.x, 1100))
	if pid, e := d.x.Fork(parent); pid != want || e != api.OK {
		d.Fatalf("Fork(%d): %d, %d; want %d", parent, pid, int(e), want)
	}
	all := append(was, process{want, parent, 'R'})
	slices.SortFunc(all, func(p, q process) int { return p.pid - q.pid })
	d.tells(strings.Trim(fmt.Sprint(all), "[]"))
}

// wait holds a Wait that takes this one up: all others are as they were.
func (d *desk) wait(pid, child, want, status int) {
	d.Helper()
	was := parsed(d.T, shown(d.T, d.x, 1100))
	if n, s, e := d.x.Wait(pid, child); n != want || s != status || e != api.OK {
		d.Fatalf("Wait(%d, %d): %d, %d, %d; want %d, %d", pid, child, n, s, int(e), want, status)
	}
	all := slices.DeleteFunc(was, func(p process) bool { return p.pid == want })
	if len(all) == len(was) {
		d.Fatalf("Wait(%d, %d): %d, which was none", pid, child, want)
	}
	d.tells(strings.Trim(fmt.Sprint(all), "[]"))
}

// noFork, noWait and refuses hold a call that answers an error, and changes nothing.
func (d *desk) noFork(parent int, wrong api.Errno) {
	d.Helper()
	d.same(func() {
		if pid, e := d.x.Fork(parent); pid != 0 || e != wrong {
			d.Fatalf("Fork(%d): %d, %d; want %d", parent, pid, int(e), int(wrong))
		}
	})
}

func (d *desk) noWait(pid, child int, wrong api.Errno) {
	d.Helper()
	d.same(func() {
		if n, s, e := d.x.Wait(pid, child); n != 0 || s != 0 || e != wrong {
			d.Fatalf("Wait(%d, %d): %d, %d, %d; want %d", pid, child, n, s, int(e), int(wrong))
		}
	})
}

func (d *desk) refuses(name string, do func() api.Errno, wrong api.Errno) {
	d.Helper()
	d.same(func() { d.does(name, do(), wrong) })
}

// same holds that something changes nothing.
func (d *desk) same(do func()) {
	d.Helper()
	was := shown(d.T, d.x, 1100)
	do()
	d.tells(was)
}
