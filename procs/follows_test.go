package procs_test

import (
	"fmt"
	"math/rand"
	"slices"
	"strings"
	"testing"

	"conch/api"
	"conch/procs"
)

// P17.5, the examples, and all of the promises at once, against a model.

func TestExamples(t *testing.T) {
	d := begun(t, room)
	d.fork(0, 1)
	d.fork(1, 2)
	d.fork(2, 3)
	d.does("Exit", d.x.Exit(2, 7), api.OK)
	d.tells("1R 2Z<1 3R<1")
	d.wait(1, 0, 2, 7)
	d.noWait(1, 0, api.ErrWait)
}

// A chain of as many as there may be, which ends from its root, and from its end: all come to process 1, and each is taken up once.
func TestChain(t *testing.T) {
	const n = 1024
	for _, down := range []bool{false, true} {
		d := begun(t, n)
		var order []int
		for pid := range n {
			d.x.Fork(pid)
			order = append(order, pid+1)
		}
		order = order[1:]
		if down {
			slices.Reverse(order)
		}
		for _, pid := range order {
			d.does("Exit", d.x.Exit(pid, -pid), api.OK)
		}
		for pid := 2; pid <= n; pid++ {
			if got, status, e := d.x.Wait(1, 0); got != pid || status != -pid || e != api.OK {
				t.Fatalf("Wait: %d, %d, %d; want %d", got, status, int(e), pid)
			}
		}
		d.noWait(1, 0, api.ErrChild)
		d.tells("1R")
	}
}

// one is a process of the model; ended counts up, that each that ends has a status of its own.
type one struct {
	state, parent, status int
}

// model is what a table is to be, done plainly: a process for each number from 1 on, of state 0 where there is none.
type model struct {
	all   [room + 1]one
	most  int
	ended int
}

// answer is what a call told.
type answer struct {
	n, status int
	e         api.Errno
}

// call is a call of a table.
type call struct {
	name     string
	pid, arg int // of Exit a status, of Wait a child
}

func (c call) String() string { return fmt.Sprintf("%s(%d, %d)", c.name, c.pid, c.arg) }

func (m *model) lives(pid int) bool {
	return pid >= 1 && pid <= room && (m.all[pid].state == procs.Ready || m.all[pid].state == procs.Blocked)
}

func (m *model) many() int {
	n := 0
	for _, p := range m.all {
		if p.state != 0 {
			n++
		}
	}
	return n
}

// do is what a call is to answer.
func (m *model) do(c call) answer {
	if c.name == "Fork" {
		return m.fork(c.pid)
	}
	if !m.lives(c.pid) {
		return answer{e: api.ErrNone}
	}
	switch c.name {
	case "Block":
		m.all[c.pid].state = procs.Blocked
	case "Wake":
		m.all[c.pid].state = procs.Ready
	case "Exit":
		m.exit(c.pid, c.arg)
	case "Wait":
		return m.wait(c.pid, c.arg)
	}
	return answer{}
}

func (m *model) fork(parent int) answer {
	if parent != 0 && !m.lives(parent) {
		return answer{e: api.ErrNone}
	}
	if m.many() == m.most {
		return answer{e: api.ErrProcs}
	}
	for pid := 1; ; pid++ {
		if m.all[pid].state == 0 {
			m.all[pid] = one{state: procs.Ready, parent: parent}
			return answer{n: pid}
		}
	}
}

// exit does what the promise says, a sentence at a time: new parents for all, then those that are no more, then itself, then who is Ready.
func (m *model) exit(pid, status int) {
	was, to := m.all, 0
	if m.lives(1) && was[1].parent == 0 && pid != 1 {
		to = 1
	}
	for n := range was {
		if was[n].state != 0 && was[n].parent == pid {
			m.all[n].parent = to
		}
	}
	for n := range was {
		if was[n].parent == pid && was[n].state == procs.Zombie && to == 0 {
			m.all[n] = one{}
		}
	}
	if was[pid].parent == 0 {
		m.all[pid] = one{}
	} else {
		m.all[pid].state, m.all[pid].status = procs.Zombie, status
		m.all[was[pid].parent].state = procs.Ready
	}
	for n := range was {
		if was[n].parent == pid && was[n].state == procs.Zombie && to == 1 {
			m.all[1].state = procs.Ready
		}
	}
}

func (m *model) wait(pid, child int) answer {
	if child < 0 {
		return answer{e: api.ErrArg}
	}
	e := api.ErrChild
	for n, p := range m.all {
		if p.state == 0 || p.parent != pid || child != 0 && child != n {
			continue
		}
		if p.state == procs.Zombie {
			m.all[n] = one{}
			return answer{n, p.status, api.OK}
		}
		e = api.ErrWait
	}
	return answer{e: e}
}

// shown is as a table is shown.
func (m *model) shown() string {
	var all []string
	for pid, p := range m.all {
		if p.state != 0 {
			all = append(all, process{pid, p.parent, "?RBZ"[p.state]}.String())
		}
	}
	return strings.Join(all, " ")
}

// calls has a table do a call.
func calls(x *procs.Table, c call) answer {
	switch c.name {
	case "Fork":
		n, e := x.Fork(c.pid)
		return answer{n: n, e: e}
	case "Block":
		return answer{e: x.Block(c.pid)}
	case "Wake":
		return answer{e: x.Wake(c.pid)}
	case "Exit":
		return answer{e: x.Exit(c.pid, c.arg)}
	}
	n, status, e := x.Wait(c.pid, c.arg)
	return answer{n, status, e}
}

// pair is a table and its model, and what both have done.
type pair struct {
	*testing.T
	x     *procs.Table
	m     model
	did   []call
	taken map[int]bool // the statuses that were answered
}

func newPair(t *testing.T, most int) *pair {
	x, e := procs.New(most)
	does(t, "New", e, api.OK)
	return &pair{T: t, x: x, m: model{most: most}, taken: map[int]bool{}}
}

// step has both do a call, and holds what they told, and what is told of them then.
func (p *pair) step(c call) {
	p.Helper()
	if c.name == "Exit" {
		p.m.ended++
		c.arg = p.m.ended
	}
	p.did = append(p.did, c)
	got, want := calls(p.x, c), p.m.do(c)
	if now := shown(p.T, p.x, room+1); got != want || now != p.m.shown() {
		p.Fatalf("%v: %v, %q; want %v, %q", p.did, got, now, want, p.m.shown())
	}
	if c.name == "Wait" && got.e == api.OK {
		if p.taken[got.status] {
			p.Fatalf("%v: %d is told twice", p.did, got.status)
		}
		p.taken[got.status] = true
	}
	p.parents()
}

// parents holds that parents live, and that none is its own child's child.
func (p *pair) parents() {
	p.Helper()
	for pid := range room + 1 {
		n := 0
		for up := p.x.Parent(pid); up != 0; up = p.x.Parent(up) {
			if s := p.x.State(up); s != procs.Ready && s != procs.Blocked {
				p.Fatalf("%v: %d, ahead of %d, is %d", p.did, up, pid, s)
			}
			if n++; n > room {
				p.Fatalf("%v: %d is its own child's child", p.did, pid)
			}
		}
	}
}

// Each row of three of these calls, behind each of these beginnings.
func TestRows(t *testing.T) {
	var all []call
	for _, name := range []string{"Fork", "Block", "Wake", "Exit"} {
		for pid := range 5 {
			all = append(all, call{name: name, pid: pid})
		}
	}
	for pid := range 4 {
		for child := -1; child < 5; child++ {
			all = append(all, call{"Wait", pid, child})
		}
	}
	forks := func(parents ...int) []call {
		var out []call
		for _, parent := range parents {
			out = append(out, call{name: "Fork", pid: parent})
		}
		return out
	}
	for _, first := range [][]call{
		nil,
		forks(0, 1, 1),
		forks(0, 1, 2, 3),
		forks(0, 1, 2, 2),
		append(forks(0, 1, 2, 2), call{"Exit", 3, 0}, call{"Block", 1, 0}),
		append(forks(0, 0, 2, 2), call{"Exit", 4, 0}, call{"Block", 1, 0}),
		append(forks(0, 0), append([]call{{"Exit", 1, 0}}, forks(2, 2, 1)...)...),
	} {
		var rows func(did []call)
		rows = func(did []call) {
			if len(did) == 3 {
				p := newPair(t, 4)
				for _, c := range slices.Concat(first, did) {
					p.step(c)
				}
				return
			}
			for _, c := range all {
				rows(append(did[:len(did):len(did)], c))
			}
		}
		rows(nil)
	}
}

// Long rows by a fixed seed: of tables of each greatness, with few that end and with many.
func TestLongRows(t *testing.T) {
	by := rand.New(rand.NewSource(17))
	for row := range 800 {
		p := newPair(t, row%room+1)
		for range 300 {
			c := call{name: []string{"Fork", "Fork", "Block", "Wake", "Wait", "Exit"}[by.Intn(6)], pid: by.Intn(p.m.most + 1)}
			switch {
			case c.name == "Exit" && by.Intn(1+row%3) > 0:
				c.name = "Block"
			case c.name == "Wait":
				c.arg = []int{0, 0, by.Intn(room + 2), -1, least, most}[by.Intn(6)]
			case by.Intn(20) == 0:
				c.pid = none()[by.Intn(len(none()))]
			}
			p.step(c)
		}
	}
}
