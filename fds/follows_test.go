package fds_test

import (
	"fmt"
	"math/rand"
	"slices"
	"strings"
	"testing"

	"conch/api"
	"conch/fds"
	"conch/files"
	"conch/names"
	"conch/pipe"
)

// P16.5, the examples, and all of the promises at once, against a model.

func TestExamples(t *testing.T) {
	d, s := begun(t)
	d.pipe(s, 0, 1)
	d.writes(s, 1, "hi", 2)
	d.reads(d.fork(s), 0, 9, "hi")
	d.noRead(s, 1, 1, api.ErrMode)
}

// What one of two sets reads the other one does not read again, whatever it is read of, and they write behind one another.
func TestShared(t *testing.T) {
	text := "what one reads the other one does not read again"
	for one := range 9 {
		for other := 1; other < 9; other++ {
			d, s := begun(t)
			d.tape(s, 0, text)
			d.open(s, "new", w|c, 1)
			d.sink(s, 2, 1)
			d.pipe(s, 3, 4)
			forked := d.fork(s)
			sets := []*fds.Set{s, forked}
			for at, i := 0, 0; at < len(text); i++ {
				n := min([]int{one, other}[i%2], len(text)-at)
				piece := text[at : at+n]
				at += n
				d.reads(sets[i%2], 0, n, piece)
				d.writes(sets[i%2], 1, piece, n)
				d.writes(sets[i%2], 2, piece, n)
				d.writes(sets[i%2], 4, piece, n)
			}
			d.contains(8, text)
			d.sunk(1, text)
			d.open(s, "new", r, 5)
			last := d.fork(s)
			for at, i := 0, 0; at < len(text); i++ {
				n := min([]int{one, other}[i%2], len(text)-at)
				d.reads([]*fds.Set{s, last}[i%2], 5, n, text[at:at+n])
				d.reads([]*fds.Set{forked, last}[i%2], 3, n, text[at:at+n])
				at += n
			}
			d.noRead(s, 3, 1, api.ErrWait)
			d.reads(s, 5, 1, "")
		}
	}
}

// However often sets are forked: when all have ended, nothing is open, and no node is held.
func TestAllEnded(t *testing.T) {
	name := func(i int) string { return fmt.Sprint("new", i) }
	for _, order := range [][]int{{0, 1, 2, 3, 4, 5, 6, 7}, {7, 6, 5, 4, 3, 2, 1, 0}, {3, 0, 7, 4, 1, 6, 5, 2}} {
		d, s := begun(t)
		sets := []*fds.Set{s}
		for i := range 7 {
			of := sets[i/2]
			d.open(of, name(i), r|w|c, len(of.List()))
			sets = append(sets, d.fork(of))
		}
		d.pipe(s, 2, 3)
		d.tape(sets[7], 9, "text")
		for i := range 7 {
			d.does("Unlink", d.f.Unlink(1, name(i)), api.OK)
		}
		if n, _ := d.f.Free(); n != nodes-14 {
			t.Fatalf("%d nodes are free", n)
		}
		d.many(10)
		for _, i := range order {
			sets[i].End()
		}
		d.many(0)
		if n, b := d.f.Free(); n != nodes-7 || b != nodes-5 {
			t.Fatalf("%d nodes, %d blocks are free", n, b)
		}
	}
}

// Many sets of one thing.
func TestManySets(t *testing.T) {
	d, s := begun(t)
	d.open(s, "f", r|w, 0)
	var sets []*fds.Set
	for range 2000 {
		sets = append(sets, s.Fork())
		s = sets[len(sets)*7%len(sets)]
	}
	d.many(1)
	d.held(2, 1)
	d.sets[0].End()
	for i := range sets {
		d.many(1)
		sets[i*7%2000].End()
	}
	d.many(0)
	d.held(2, 0)
}

// thing is what something open is to be: it is closed when no set has it any more, which is looked for in all of them.
type thing struct {
	file   *files.File
	pipe   *pipe.Pipe
	writes bool // of a pipe
	tape   bool
	text   string // of a tape what is left, of a sink what was written
}

func (x *thing) read(n int) (string, api.Errno) {
	switch {
	case x.file != nil:
		return x.file.Read(n)
	case x.pipe != nil && !x.writes:
		return x.pipe.Read(n)
	case !x.tape:
		return "", api.ErrMode
	case n < 0:
		return "", api.ErrArg
	case n > len(x.text):
		n = len(x.text)
	}
	out := x.text[:n]
	x.text = x.text[n:]
	return out, api.OK
}

func (x *thing) write(data string) (int, api.Errno) {
	switch {
	case x.file != nil:
		return x.file.Write(data)
	case x.pipe != nil && x.writes:
		return x.pipe.Write(data)
	case x.pipe != nil || x.tape:
		return 0, api.ErrMode
	}
	x.text += data
	return len(data), api.OK
}

// model is what Files are to be, over a tree of their own.
type model struct {
	f     *names.FS
	all   []*thing
	sinks []*thing
	sets  []map[int]*thing
}

// free is the least numbers that are not open.
func (m *model) free(set int) []int {
	var out []int
	for fd := range 16 {
		if m.sets[set][fd] == nil {
			out = append(out, fd)
		}
	}
	return out
}

func (m *model) open(set, fd int, x *thing) {
	m.sets[set][fd] = x
	m.all = append(m.all, x)
}

// fresh is why a number is not to be opened.
func (m *model) fresh(set, fd int) api.Errno {
	if fd < 0 || fd > 15 {
		return api.ErrFd
	}
	if m.sets[set][fd] != nil {
		return api.ErrThere
	}
	return api.OK
}

// sweep closes what no set has any more.
func (m *model) sweep() {
	m.all = slices.DeleteFunc(m.all, func(x *thing) bool {
		for _, s := range m.sets {
			for _, y := range s {
				if x == y {
					return false
				}
			}
		}
		if x.file != nil {
			x.file.Close()
		}
		if x.pipe != nil {
			x.pipe.Leave(x.writes)
		}
		return true
	})
}

// call is a call of a set.
type call struct {
	name string
	set  int
	fd   int
	n    int
	text string
}

func (c call) String() string {
	return fmt.Sprintf("%d.%s(%d, %d, %.20q)", c.set, c.name, c.fd, c.n, c.text)
}

// answer is what a call told.
type answer struct {
	n, m int
	text string
	e    api.Errno
}

func (m *model) do(c call) answer {
	defer m.sweep()
	s := m.sets[c.set]
	switch c.name {
	case "Tape":
		if e := m.fresh(c.set, c.fd); e != api.OK {
			return answer{e: e}
		}
		m.open(c.set, c.fd, &thing{tape: true, text: c.text})
	case "Sink":
		if e := m.fresh(c.set, c.fd); e != api.OK {
			return answer{e: e}
		}
		m.sinks = append(m.sinks, &thing{})
		m.open(c.set, c.fd, m.sinks[len(m.sinks)-1])
		return answer{n: len(m.sinks)}
	case "Open":
		free := m.free(c.set)
		if len(free) < 1 {
			return answer{e: api.ErrMany}
		}
		x, e := files.Open(m.f, c.fd, c.text, c.n)
		if e != api.OK {
			return answer{e: e}
		}
		m.open(c.set, free[0], &thing{file: x})
		return answer{n: free[0]}
	case "Pipe":
		free := m.free(c.set)
		if len(free) < 2 {
			return answer{e: api.ErrMany}
		}
		p := pipe.New()
		m.open(c.set, free[0], &thing{pipe: p})
		m.open(c.set, free[1], &thing{pipe: p, writes: true})
		return answer{n: free[0], m: free[1]}
	case "Dup":
		if s[c.fd] == nil || c.n < 0 || c.n > 15 {
			return answer{e: api.ErrFd}
		}
		s[c.n] = s[c.fd]
	case "Close":
		if s[c.fd] == nil {
			return answer{e: api.ErrFd}
		}
		delete(s, c.fd)
	case "Fork":
		other := map[int]*thing{}
		for fd, x := range s {
			other[fd] = x
		}
		m.sets = append(m.sets, other)
	case "Set":
		m.sets = append(m.sets, map[int]*thing{})
	case "End":
		clear(s)
	case "Read":
		if s[c.fd] == nil {
			return answer{e: api.ErrFd}
		}
		text, e := s[c.fd].read(c.n)
		return answer{text: text, e: e}
	case "Write":
		if s[c.fd] == nil {
			return answer{e: api.ErrFd}
		}
		n, e := s[c.fd].write(c.text)
		return answer{n: n, e: e}
	}
	return answer{}
}

// calls does a call of the sets that are tested.
func (d *desk) calls(c call) answer {
	s := d.sets[c.set]
	switch c.name {
	case "Tape":
		return answer{e: s.Tape(c.fd, c.text)}
	case "Sink":
		n, e := s.Sink(c.fd)
		return answer{n: n, e: e}
	case "Open":
		n, e := s.Open(c.fd, c.text, c.n)
		return answer{n: n, e: e}
	case "Pipe":
		n, m, e := s.Pipe()
		return answer{n: n, m: m, e: e}
	case "Dup":
		return answer{e: s.Dup(c.fd, c.n)}
	case "Close":
		return answer{e: s.Close(c.fd)}
	case "Fork":
		d.sets = append(d.sets, s.Fork())
	case "Set":
		d.sets = append(d.sets, d.x.Set())
	case "End":
		s.End()
	case "Read":
		text, e := s.Read(c.fd, c.n)
		return answer{text: text, e: e}
	case "Write":
		n, e := s.Write(c.fd, c.text)
		return answer{n: n, e: e}
	}
	return answer{}
}

// pair is what is tested, and the model.
type pair struct {
	d   *desk
	m   *model
	did []call
}

func newPair(t *testing.T) *pair {
	t.Helper()
	d, _ := begun(t)
	return &pair{d: d, m: &model{f: someTree(t), sets: []map[int]*thing{{}}}}
}

// step does a call of both, and holds all that is told then.
func (p *pair) step(c call) {
	p.d.Helper()
	p.did = append(p.did, c)
	got, want := p.d.calls(c), p.m.do(c)
	if got != want {
		p.d.Fatalf("%v: %v; want %v", p.did, got, want)
	}
	if n := p.d.x.Open(); n != len(p.m.all) {
		p.d.Fatalf("%v: %d are open; want %d", p.did, n, len(p.m.all))
	}
	for i, s := range p.m.sets {
		if got, want := p.d.sets[i].List(), rising(s); !slices.Equal(got, want) {
			p.d.Fatalf("%v: set %d: %v; want %v", p.did, i, got, want)
		}
	}
	for i := range p.m.sinks {
		if got := p.d.x.Sunk(i + 1); got != p.m.sinks[i].text {
			p.d.Fatalf("%v: sink %d: %q; want %q", p.did, i+1, got, p.m.sinks[i].text)
		}
	}
	n, b := p.d.f.Free()
	if nodes, blocks := p.m.f.Free(); n != nodes || b != blocks {
		p.d.Fatalf("%v: %d, %d are free; want %d, %d", p.did, n, b, nodes, blocks)
	}
}

// trees holds that both trees are the same, with their users.
func (p *pair) trees() {
	p.d.Helper()
	if got, want := treeShown(p.d.f), treeShown(p.m.f); got != want {
		p.d.Fatalf("%v: %s; want %s", p.did, got, want)
	}
}

func rising(s map[int]*thing) []int {
	var out []int
	for fd := range 16 {
		if s[fd] != nil {
			out = append(out, fd)
		}
	}
	return out
}

// Each row of three of these calls, behind each of these beginnings.
func TestRows(t *testing.T) {
	var all []call
	for set := range 2 {
		for _, c := range []call{
			{name: "Tape", fd: 1, text: "text"}, {name: "Sink", fd: 2}, {name: "Open", fd: 1, n: r | w, text: "f"}, {name: "Pipe"},
			{name: "Dup", fd: 0, n: 1}, {name: "Dup", fd: 1, n: 0}, {name: "Dup", fd: 2, n: 0}, {name: "Dup", fd: 2, n: 2}, {name: "Close", fd: 0}, {name: "Close", fd: 1},
			{name: "Read", fd: 0, n: 2}, {name: "Read", fd: 2, n: 1}, {name: "Write", fd: 1, text: "abc"}, {name: "Write", fd: 2, text: strings.Repeat("d", 70)}, {name: "End"},
		} {
			c.set = set
			all = append(all, c)
		}
	}
	begin := [][]call{
		{{name: "Set"}},
		{{name: "Tape", fd: 0, text: "0123"}, {name: "Sink", fd: 1}, {name: "Open", fd: 1, n: r | w, text: "f"}, {name: "Fork"}},
		{{name: "Pipe"}, {name: "Write", fd: 1, text: "in it"}, {name: "Dup", fd: 1, n: 2}, {name: "Fork"}, {name: "Close", set: 1, fd: 0}},
		{{name: "Open", fd: 1, n: w | c | a, text: "new"}, {name: "Pipe"}, {name: "Fork"}, {name: "Close", set: 0, fd: 2}, {name: "Close", set: 1, fd: 1}},
	}
	for _, first := range begin {
		for _, one := range all {
			for _, two := range all {
				for _, three := range all {
					p := newPair(t)
					for _, c := range first {
						p.step(c)
					}
					p.step(one)
					p.step(two)
					p.step(three)
				}
			}
		}
	}
}

// anyCall is some call, mostly one that is not refused.
func anyCall(by *rand.Rand, m *model) call {
	out := call{set: by.Intn(len(m.sets)), fd: by.Intn(16), n: by.Intn(16)}
	open := rising(m.sets[out.set])
	if len(open) > 0 && by.Intn(5) > 0 {
		out.fd = open[by.Intn(len(open))]
	}
	if by.Intn(40) == 0 {
		out.fd = noNumbers[by.Intn(len(noNumbers))]
	}
	weights := []string{"Tape", "Sink", "Open", "Open", "Pipe", "Dup", "Dup", "Close", "Close", "Fork", "Set", "End", "Read", "Read", "Read", "Write", "Write", "Write"}
	out.name = weights[by.Intn(len(weights))]
	switch out.name {
	case "Fork", "Set":
		// Of many sets most have ended.
		if len(m.sets) > 5 {
			out.name = "End"
		}
	case "Tape", "Sink":
		if free := m.free(out.set); len(free) > 0 && by.Intn(4) > 0 {
			out.fd = free[by.Intn(len(free))]
		}
		out.text = strings.Repeat("tape", by.Intn(5))
	case "Open":
		out.fd = []int{1, 1, 1, 3, 2, 0}[by.Intn(6)]
		out.text = []string{"f", "g", "/to", "d", "no", "x", "new", "old", "d/g", ""}[by.Intn(10)]
		out.n = by.Intn(64)
	case "Read":
		out.n = []int{-1, 0, 1, 2, 3, 10, 40, most}[by.Intn(8)]
	case "Write":
		out.text = strings.Repeat(string(rune('a'+by.Intn(26))), []int{0, 1, 2, 3, 10, 40, 100}[by.Intn(7)])
	case "Dup":
		if by.Intn(20) == 0 {
			out.n = noNumbers[by.Intn(len(noNumbers))]
		}
	}
	return out
}

// Long rows by a fixed seed, in which names are taken away now and then. In the end all sets end: nothing is open, and no node is held.
func TestLongRows(t *testing.T) {
	by := rand.New(rand.NewSource(16))
	for range 150 {
		p := newPair(t)
		for i := range 300 {
			p.step(anyCall(by, p.m))
			if i%30 == 29 {
				path := []string{"f", "new", "old", "d/g"}[by.Intn(4)]
				does(t, "Unlink", p.d.f.Unlink(1, path), p.m.f.Unlink(1, path))
				p.trees()
			}
		}
		for i := range p.m.sets {
			p.step(call{name: "End", set: i})
		}
		p.d.many(0)
		p.trees()
		for _, name := range []string{"f", "g", "d", "no", "x", "new", "old"} {
			p.d.f.Unlink(3, name)
			if name != "no" && name != "x" {
				p.d.f.Unlink(1, name)
			}
		}
		if n, b := p.d.f.Free(); n != nodes-5 || b != nodes-3 {
			t.Fatalf("%v: %d, %d are free", p.did, n, b)
		}
	}
}
