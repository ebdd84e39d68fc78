package fds_test

import (
	"fmt"
	"slices"
	"strings"
	"testing"

	"conch/api"
	"conch/fds"
	"conch/files"
	"conch/names"
)

const (
	most  = int(^uint(0) >> 1)
	least = -most - 1
	nodes = 20
)

// Short names of the flags.
const (
	r  = files.Read
	w  = files.Write
	a  = files.Append
	c  = files.Create
	tr = files.Trunc
	x  = files.Excl
)

// desk is a test, and what it tests: a tree, what is open of it, and the sets that were made.
type desk struct {
	*testing.T
	f    *names.FS
	x    *fds.Files
	sets []*fds.Set
}

// begun is one with a set without open numbers, and a tree with room for 20 nodes and blocks:
//
//	/f 2 "old", /d/ 3, /d/g 4 "deep", /to -> f 5, /no -> nowhere 6, /x -> x 7
func begun(t *testing.T) (*desk, *fds.Set) {
	t.Helper()
	f := someTree(t)
	files, e := fds.New(f)
	does(t, "New", e, api.OK)
	d := &desk{T: t, f: f, x: files}
	return d, d.set()
}

func someTree(t *testing.T) *names.FS {
	t.Helper()
	f, e := names.New(nodes, nodes)
	does(t, "names.New", e, api.OK)
	file(t, f, "f", "old")
	does(t, "Mkdir", f.Mkdir(1, "d"), api.OK)
	file(t, f, "d/g", "deep")
	for _, l := range []struct{ text, path string }{{"f", "to"}, {"nowhere", "no"}, {"x", "x"}} {
		does(t, "Symlink", f.Symlink(1, l.text, l.path), api.OK)
	}
	return f
}

// file makes a file of these bytes.
func file(t *testing.T, f *names.FS, path, data string) {
	t.Helper()
	n, e := f.Make(1, path)
	does(t, "Make of "+path, e, api.OK)
	if n, e := f.Write(n, 0, data); n != len(data) || e != api.OK {
		t.Fatalf("Write of %s: %d, %d", path, n, int(e))
	}
}

// does holds what a call answered against what it is to answer.
func does(t *testing.T, name string, e, wrong api.Errno) {
	t.Helper()
	if e != wrong {
		t.Fatalf("%s: %d; want %d", name, int(e), int(wrong))
	}
}

func (d *desk) does(name string, e, wrong api.Errno) {
	d.Helper()
	does(d.T, name, e, wrong)
}

// set is a new one, without open numbers.
func (d *desk) set() *fds.Set {
	d.Helper()
	s := d.x.Set()
	if s == nil {
		d.Fatal("Set: nil")
	}
	d.sets = append(d.sets, s)
	d.list(s)
	return s
}

// fork is the Fork of a set, with the same numbers.
func (d *desk) fork(s *fds.Set) *fds.Set {
	d.Helper()
	was, many := s.List(), d.x.Open()
	other := s.Fork()
	if other == nil || other == s {
		d.Fatalf("Fork: %p of %p", other, s)
	}
	d.sets = append(d.sets, other)
	d.list(s, was...)
	d.list(other, was...)
	d.many(many)
	return other
}

// list holds the numbers of a set that are open.
func (d *desk) list(s *fds.Set, want ...int) {
	d.Helper()
	if got := s.List(); !slices.Equal(got, want) {
		d.Fatalf("List: %v; want %v", got, want)
	}
}

// many holds how many things are open.
func (d *desk) many(want int) {
	d.Helper()
	if n := d.x.Open(); n != want {
		d.Fatalf("Open: %d; want %d", n, want)
	}
}

// sunk holds what was written to a sink.
func (d *desk) sunk(sink int, want string) {
	d.Helper()
	if got := d.x.Sunk(sink); got != want {
		d.Fatalf("Sunk(%d): %q; want %q", sink, got, want)
	}
}

// tape, sink, open and pipe open something, which is one more then (of a pipe two), under one number more.
func (d *desk) tape(s *fds.Set, fd int, text string) {
	d.Helper()
	d.more(s, []int{fd}, func() { d.does("Tape", s.Tape(fd, text), api.OK) })
}

func (d *desk) sink(s *fds.Set, fd, want int) {
	d.Helper()
	d.more(s, []int{fd}, func() {
		if n, e := s.Sink(fd); n != want || e != api.OK {
			d.Fatalf("Sink(%d): %d, %d; want %d", fd, n, int(e), want)
		}
	})
	d.sunk(want, "")
}

func (d *desk) open(s *fds.Set, path string, flags, want int) {
	d.Helper()
	d.more(s, []int{want}, func() {
		if fd, e := s.Open(1, path, flags); fd != want || e != api.OK {
			d.Fatalf("Open(1, %q, %d): %d, %d; want %d", path, flags, fd, int(e), want)
		}
	})
}

func (d *desk) pipe(s *fds.Set, first, second int) {
	d.Helper()
	d.more(s, []int{first, second}, func() {
		if in, out, e := s.Pipe(); in != first || out != second || e != api.OK {
			d.Fatalf("Pipe: %d, %d, %d; want %d, %d", in, out, int(e), first, second)
		}
	})
}

// more holds that something opens just these numbers, each for something new.
func (d *desk) more(s *fds.Set, opened []int, do func()) {
	d.Helper()
	want, n := append(s.List(), opened...), d.x.Open()
	do()
	slices.Sort(want)
	d.list(s, want...)
	d.many(n + len(opened))
}

// close holds a Close with which so many things are closed.
func (d *desk) close(s *fds.Set, fd, things int) {
	d.Helper()
	was, n := s.List(), d.x.Open()
	d.does(fmt.Sprintf("Close(%d)", fd), s.Close(fd), api.OK)
	d.list(s, slices.DeleteFunc(was, func(i int) bool { return i == fd })...)
	d.many(n - things)
}

// dup holds a Dup with which so many things are closed.
func (d *desk) dup(s *fds.Set, from, to, things int) {
	d.Helper()
	want, n := s.List(), d.x.Open()
	d.does(fmt.Sprintf("Dup(%d, %d)", from, to), s.Dup(from, to), api.OK)
	if !slices.Contains(want, to) {
		want = append(want, to)
	}
	slices.Sort(want)
	d.list(s, want...)
	d.many(n - things)
}

func (d *desk) reads(s *fds.Set, fd, n int, want string) {
	d.Helper()
	if data, e := s.Read(fd, n); data != want || e != api.OK {
		d.Fatalf("Read(%d, %d): %q, %d; want %q", fd, n, data, int(e), want)
	}
}

func (d *desk) writes(s *fds.Set, fd int, data string, want int) {
	d.Helper()
	if n, e := s.Write(fd, data); n != want || e != api.OK {
		d.Fatalf("Write(%d, %.80q): %d, %d; want %d", fd, data, n, int(e), want)
	}
}

// What follows holds calls that answer an error, and change nothing.

func (d *desk) noRead(s *fds.Set, fd, n int, wrong api.Errno) {
	d.Helper()
	d.same(func() {
		if data, e := s.Read(fd, n); data != "" || e != wrong {
			d.Fatalf("Read(%d, %d): %q, %d; want %d", fd, n, data, int(e), int(wrong))
		}
	})
}

func (d *desk) noWrite(s *fds.Set, fd int, data string, wrong api.Errno) {
	d.Helper()
	d.same(func() {
		if n, e := s.Write(fd, data); n != 0 || e != wrong {
			d.Fatalf("Write(%d, %.80q): %d, %d; want %d", fd, data, n, int(e), int(wrong))
		}
	})
}

func (d *desk) noTape(s *fds.Set, fd int, wrong api.Errno) {
	d.Helper()
	d.same(func() { d.does(fmt.Sprintf("Tape(%d)", fd), s.Tape(fd, "text"), wrong) })
}

func (d *desk) noSink(s *fds.Set, fd int, wrong api.Errno) {
	d.Helper()
	d.same(func() {
		if n, e := s.Sink(fd); n != 0 || e != wrong {
			d.Fatalf("Sink(%d): %d, %d; want %d", fd, n, int(e), int(wrong))
		}
	})
}

func (d *desk) noOpen(s *fds.Set, dir int, path string, flags int, wrong api.Errno) {
	d.Helper()
	d.same(func() {
		if fd, e := s.Open(dir, path, flags); fd != 0 || e != wrong {
			d.Fatalf("Open(%d, %.80q, %d): %d, %d; want %d", dir, path, flags, fd, int(e), int(wrong))
		}
	})
}

func (d *desk) noPipe(s *fds.Set, wrong api.Errno) {
	d.Helper()
	d.same(func() {
		if in, out, e := s.Pipe(); in != 0 || out != 0 || e != wrong {
			d.Fatalf("Pipe: %d, %d, %d; want %d", in, out, int(e), int(wrong))
		}
	})
}

func (d *desk) noDup(s *fds.Set, from, to int) {
	d.Helper()
	d.same(func() { d.does(fmt.Sprintf("Dup(%d, %d)", from, to), s.Dup(from, to), api.ErrFd) })
}

func (d *desk) noClose(s *fds.Set, fd int) {
	d.Helper()
	d.same(func() { d.does(fmt.Sprintf("Close(%d)", fd), s.Close(fd), api.ErrFd) })
}

// same holds that something changes nothing that is told.
func (d *desk) same(do func()) {
	d.Helper()
	was := d.shown()
	do()
	if now := d.shown(); now != was {
		d.Fatalf("%s; want %s", now, was)
	}
}

// shown is all that is told, and the tree.
func (d *desk) shown() string {
	var out strings.Builder
	fmt.Fprintf(&out, "%d open\n", d.x.Open())
	for i := -1; i < 30; i++ {
		if text := d.x.Sunk(i); text != "" {
			fmt.Fprintf(&out, "sink %d %q\n", i, text)
		}
	}
	for _, s := range d.sets {
		fmt.Fprintf(&out, "%v\n", s.List())
	}
	return out.String() + treeShown(d.f)
}

// treeShown is all that a tree tells, and how many users its nodes have.
func treeShown(f *names.FS) string {
	var out strings.Builder
	for i := 1; i <= nodes; i++ {
		if info, e := f.Stat(i); e == api.OK {
			data, _ := f.Read(i, 0, most)
			fmt.Fprintf(&out, "%d: %v, %d users, %q\n", i, info, users(f, i), data)
		}
	}
	n, b := f.Free()
	fmt.Fprintf(&out, "free %d, %d\n", n, b)
	return out.String() + f.Print()
}

// users is how many users a node has: as many as can be taken away of a copy.
func users(f *names.FS, node int) int {
	of := f.Copy()
	n := 0
	for n < 100 && of.Loose(node) == api.OK {
		n++
	}
	return n
}

// held holds how many users a node has.
func (d *desk) held(node, want int) {
	d.Helper()
	if n := users(d.f, node); n != want {
		d.Fatalf("%d has %d users; want %d", node, n, want)
	}
}

// contains holds all bytes of a node.
func (d *desk) contains(node int, want string) {
	d.Helper()
	if data, e := d.f.Read(node, 0, most); data != want || e != api.OK {
		d.Fatalf("%d: %q, %d; want %q", node, data, int(e), want)
	}
}

// fill opens the numbers from one to another for a tape each.
func (d *desk) fill(s *fds.Set, from, to int) {
	d.Helper()
	for fd := from; fd <= to; fd++ {
		d.tape(s, fd, "")
	}
}
