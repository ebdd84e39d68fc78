package fds_test

import (
	"strings"
	"testing"

	"conch/api"
	"conch/fds"
	"conch/names"
)

// P16.1 to P16.3

// Numbers that no set has.
var noNumbers = []int{least, least + 1, -17, -16, -1, 16, 17, 32, 64, 256, most - 1, most}

func TestNew(t *testing.T) {
	if files, e := fds.New(nil); files != nil || e != api.ErrNil {
		t.Fatalf("New(nil): %v, %d", files, int(e))
	}
	f := someTree(t)
	was := treeShown(f)
	files, e := fds.New(f)
	does(t, "New", e, api.OK)
	d := &desk{T: t, f: f, x: files}
	d.many(0)
	for _, sink := range []int{least, -1, 0, 1, 2, 16, most} {
		d.sunk(sink, "")
	}
	if now := treeShown(f); now != was {
		t.Fatalf("%s; want %s", now, was)
	}
}

// Sets begin without open numbers, and none of them minds what is done to another one, nor to those of other Files.
func TestSet(t *testing.T) {
	d, s := begun(t)
	for fd := range 16 {
		d.noRead(s, fd, 0, api.ErrFd)
		d.noWrite(s, fd, "", api.ErrFd)
		d.noClose(s, fd)
	}
	other := d.set()
	d.fill(s, 0, 15)
	d.list(other)
	d.noRead(other, 0, 1, api.ErrFd)
	d.pipe(other, 0, 1)
	d.sink(other, 2, 1)
	again, e := fds.New(d.f)
	d.does("New", e, api.OK)
	e2 := &desk{T: t, f: d.f, x: again}
	e2.many(0)
	e2.sink(e2.set(), 7, 1)
	e2.writes(e2.sets[0], 7, "its own", 7)
	d.sunk(1, "")
	d.writes(other, 2, "mine", 4)
	e2.sunk(1, "its own")
	d.sunk(1, "mine")
	e2.many(1)
	d.many(19)
}

// Each kind of thing counts as often as it is open, not as often as a number is open for it.
func TestOpenThings(t *testing.T) {
	d, s := begun(t)
	d.tape(s, 0, "")
	d.many(1)
	d.sink(s, 1, 1)
	d.many(2)
	d.open(s, "f", r, 2)
	d.many(3)
	d.open(s, "f", r, 3)
	d.many(4)
	d.pipe(s, 4, 5)
	d.many(6)
	for to := 6; to < 12; to++ {
		d.dup(s, to-6, to, 0)
	}
	other := d.fork(s)
	for fd := 0; fd < 6; fd++ {
		d.close(s, fd, 0)
		d.close(s, fd+6, 0)
		d.close(other, fd+6, 0)
	}
	d.many(6)
	for fd := 0; fd < 6; fd++ {
		d.close(other, fd, 1)
		d.many(5 - fd)
	}
}

// Sinks are counted as they are opened, whatever numbers they are under, of whichever set, and whether they are open still.
func TestSunk(t *testing.T) {
	d, s := begun(t)
	other := d.set()
	d.sink(s, 9, 1)
	d.sink(other, 9, 2)
	d.sink(s, 3, 3)
	d.noSink(s, 3, api.ErrThere)
	d.noSink(s, 16, api.ErrFd)
	d.sink(s, 0, 4)
	d.writes(s, 9, "one", 3)
	d.writes(other, 9, "two", 3)
	d.writes(s, 0, "four", 4)
	d.writes(s, 9, "", 0)
	d.writes(s, 9, " and more", 9)
	d.writes(s, 9, "\x00\xff\n", 3)
	want := []string{"", "one and more\x00\xff\n", "two", "", "four", "", ""}
	for round := range 3 {
		for sink, text := range want {
			d.sunk(sink, text)
		}
		d.sunk(-1, "")
		d.sunk(least, "")
		d.sunk(most, "")
		if round == 0 {
			d.close(s, 9, 1)
			d.close(s, 3, 1)
		} else {
			s.End()
			other.End()
			d.many(0)
		}
	}
	d.sink(s, 9, 5)
	d.writes(s, 9, "five", 4)
	d.sunk(5, "five")
	d.sunk(1, want[1])
}

// A sink has room for all bytes.
func TestSinkHasRoom(t *testing.T) {
	d, s := begun(t)
	d.sink(s, 1, 1)
	text := strings.Repeat("0123456789abcdef", 1000)
	for i := range 20 {
		d.writes(s, 1, text, len(text))
		d.sunk(1, strings.Repeat(text, i+1))
	}
}

// All calls of nil objects, and of sets that no Files made.
func TestNil(t *testing.T) {
	var files *fds.Files
	if s := files.Set(); s != nil {
		t.Fatalf("Set: %v", s)
	}
	if n := files.Open(); n != 0 {
		t.Fatalf("Open: %d", n)
	}
	for _, sink := range []int{least, -1, 0, 1, most} {
		if text := files.Sunk(sink); text != "" {
			t.Fatalf("Sunk(%d): %q", sink, text)
		}
	}
	var none *fds.Set
	for _, s := range []*fds.Set{none, {}} {
		for _, fd := range append(noNumbers, 0, 1, 15) {
			nilCalls(t, s, fd)
		}
		if other := s.Fork(); other != nil {
			t.Fatalf("Fork: %v", other)
		}
		s.End()
		if open := s.List(); len(open) != 0 {
			t.Fatalf("List: %v", open)
		}
	}
}

// nilCalls holds that the calls of a nil set that may be refused are, whatever the number.
func nilCalls(t *testing.T, s *fds.Set, fd int) {
	t.Helper()
	does(t, "Tape", s.Tape(fd, "a"), api.ErrNil)
	does(t, "Dup", s.Dup(fd, fd), api.ErrNil)
	does(t, "Dup", s.Dup(0, fd), api.ErrNil)
	does(t, "Close", s.Close(fd), api.ErrNil)
	n, e := s.Sink(fd)
	to, e2 := s.Open(1, "a", fd)
	in, out, e3 := s.Pipe()
	data, e4 := s.Read(fd, -1)
	done, e5 := s.Write(fd, "")
	for i, e := range []api.Errno{e, e2, e3, e4, e5} {
		if e != api.ErrNil {
			t.Fatalf("%d: %d", i, int(e))
		}
	}
	if n != 0 || to != 0 || in != 0 || out != 0 || data != "" || done != 0 {
		t.Fatalf("%d, %d, %d, %d, %q, %d", n, to, in, out, data, done)
	}
}

// Files that New did not make have no tree; all else is as of others.
func TestNoTree(t *testing.T) {
	d := &desk{T: t, f: someTree(t), x: &fds.Files{}}
	s := d.set()
	for _, flags := range []int{r, w | c, 0, -1} {
		d.noOpen(s, 1, "f", flags, api.ErrNil)
	}
	d.pipe(s, 0, 1)
	d.sink(s, 2, 1)
	s.End()
	d.many(0)
	// A tree that names did not make is as none.
	empty, e := fds.New(&names.FS{})
	d.does("New", e, api.OK)
	d.x = empty
	d.noOpen(d.set(), 1, "f", r, api.ErrNil)
}

func TestTape(t *testing.T) {
	d, s := begun(t)
	for _, fd := range noNumbers {
		d.noTape(s, fd, api.ErrFd)
	}
	for i := range 16 {
		fd := (i*7 + 3) % 16
		d.tape(s, fd, strings.Repeat("a", i))
		d.noTape(s, fd, api.ErrThere)
		d.noTape(s, -1, api.ErrFd)
		d.noTape(s, 16, api.ErrFd)
	}
	for i := range 16 {
		fd := (i*7 + 3) % 16
		d.reads(s, fd, 99, strings.Repeat("a", i))
		d.close(s, fd, 1)
		d.tape(s, fd, "new")
		d.reads(s, fd, 99, "new")
	}
}

func TestSink(t *testing.T) {
	d, s := begun(t)
	for _, fd := range noNumbers {
		d.noSink(s, fd, api.ErrFd)
	}
	for i := range 16 {
		fd := (i*5 + 9) % 16
		d.sink(s, fd, i+1)
		d.noSink(s, fd, api.ErrThere)
		d.noSink(s, -1, api.ErrFd)
		d.noSink(s, 16, api.ErrFd)
	}
	for i := range 16 {
		d.close(s, i, 1)
		d.sink(s, i, 17+i)
	}
}

// Whatever a number is open for, it is open.
func TestThere(t *testing.T) {
	d, s := begun(t)
	d.tape(s, 0, "text")
	d.sink(s, 1, 1)
	d.open(s, "f", r|w, 2)
	d.pipe(s, 3, 4)
	d.dup(s, 0, 5, 0)
	for fd := range 6 {
		d.noTape(s, fd, api.ErrThere)
		d.noSink(s, fd, api.ErrThere)
	}
	other := d.fork(s)
	for fd := range 6 {
		d.noTape(other, fd, api.ErrThere)
		d.noSink(other, fd, api.ErrThere)
		d.close(s, fd, 0)
		d.noSink(other, fd, api.ErrThere)
		d.tape(s, fd, "")
	}
	d.reads(other, 0, 9, "text")
}

// masks does something with sets whose numbers are open for tapes, but for some: of those below 7 each choice, and of the others none, one or two.
func masks(t *testing.T, do func(d *desk, s *fds.Set, free []int)) {
	t.Helper()
	for mask := range 1 << 7 {
		for _, high := range []int{7, 8, 11, 14, 15, 16} {
			d, s := begun(t)
			var free []int
			for fd := range 16 {
				if fd < 7 && mask>>fd&1 == 0 || fd == high || fd == high+1 && high < 15 {
					free = append(free, fd)
				} else {
					d.tape(s, fd, "")
				}
			}
			do(d, s, free)
		}
	}
}

// The least number that is free, of each choice; ErrMany of none, ahead of all that files would say.
func TestOpenLeast(t *testing.T) {
	masks(t, func(d *desk, s *fds.Set, free []int) {
		for i, fd := range free {
			d.held(2, i)
			d.open(s, "f", r|w, fd)
			d.held(2, i+1)
		}
		d.noOpen(s, 1, "f", r, api.ErrMany)
	})
	d, s := begun(t)
	d.fill(s, 0, 15)
	for _, flags := range []int{r, w | c, w | c | tr, 0, -1, 64} {
		for _, path := range []string{"f", "new", "d", "no", "x", "", "none/a", strings.Repeat("a", 300)} {
			d.noOpen(s, 1, path, flags, api.ErrMany)
			d.noOpen(s, 9, path, flags, api.ErrMany)
		}
	}
	d.noOpen(s, 1, "f", w|tr, api.ErrMany)
	// One that is closed is free again.
	for _, fd := range []int{15, 0, 7} {
		d.close(s, fd, 1)
		d.open(s, "f", r, fd)
		d.noOpen(s, 1, "new", w|c, api.ErrMany)
	}
}

// What files refuses is refused, and takes no number.
func TestOpenRefused(t *testing.T) {
	d, s := begun(t)
	d.tape(s, 0, "")
	for _, one := range []struct {
		dir   int
		path  string
		flags int
		wrong api.Errno
	}{
		{1, "f", 0, api.ErrArg},
		{1, "f", -1, api.ErrArg},
		{1, "f", c | tr | x | a, api.ErrArg},
		{1, "f", r | 64, api.ErrArg},
		{9, "f", 0, api.ErrArg},
		{0, "f", r, api.ErrNoDir},
		{2, "f", r, api.ErrNoDir},
		{9, "f", r, api.ErrNoDir},
		{1, "", r, api.ErrNone},
		{1, "none", r, api.ErrNone},
		{1, "no", w | c, api.ErrNone},
		{3, "f", r, api.ErrNone},
		{1, "f/f", r, api.ErrNoDir},
		{1, "f", w | c | x, api.ErrThere},
		{1, "d", r, api.ErrDir},
		{1, "x", r, api.ErrLoop},
		{1, strings.Repeat("a", 33), r, api.ErrBig},
		{1, strings.Repeat("/", 257), r, api.ErrBig},
	} {
		d.noOpen(s, one.dir, one.path, one.flags, one.wrong)
	}
	d.open(s, "f", r, 1)
}

// The directory, the path and the flags are files'.
func TestOpenIsFiles(t *testing.T) {
	d, s := begun(t)
	if fd, e := s.Open(3, "g", r); fd != 0 || e != api.OK {
		t.Fatalf("Open: %d, %d", fd, int(e))
	}
	d.reads(s, 0, 9, "deep")
	if fd, e := s.Open(3, "/to", r|w|a); fd != 1 || e != api.OK {
		t.Fatalf("Open: %d, %d", fd, int(e))
	}
	d.writes(s, 1, "er", 2)
	d.contains(2, "older")
	d.noRead(s, 1, -1, api.ErrArg)
	d.open(s, "f", w|tr, 2)
	d.contains(2, "")
	d.open(s, "new", w|c|x, 3)
	d.writes(s, 3, "made", 4)
	d.contains(8, "made")
	d.held(8, 1)
	d.noRead(s, 3, 1, api.ErrMode)
}

// The two least numbers that are free, of each choice; ErrMany of one, and of none.
func TestPipeLeast(t *testing.T) {
	masks(t, func(d *desk, s *fds.Set, free []int) {
		for ; len(free) > 1; free = free[2:] {
			d.pipe(s, free[0], free[1])
			d.writes(s, free[1], "this", 4)
			d.noRead(s, free[1], 1, api.ErrMode)
			d.noWrite(s, free[0], "a", api.ErrMode)
			d.reads(s, free[0], 99, "this")
		}
		d.noPipe(s, api.ErrMany)
	})
	for fd := range 16 {
		d, s := begun(t)
		d.fill(s, 0, 15)
		d.noPipe(s, api.ErrMany)
		d.close(s, fd, 1)
		d.noPipe(s, api.ErrMany)
		d.open(s, "f", r, fd)
		d.noPipe(s, api.ErrMany)
	}
}

// A pipe is new each time.
func TestPipes(t *testing.T) {
	d, s := begun(t)
	for fd := 0; fd < 16; fd += 2 {
		d.pipe(s, fd, fd+1)
		d.writes(s, fd+1, strings.Repeat("a", fd+1), fd+1)
	}
	for fd := 0; fd < 16; fd += 2 {
		d.reads(s, fd, 99, strings.Repeat("a", fd+1))
		d.noRead(s, fd, 1, api.ErrWait)
	}
}

func TestDup(t *testing.T) {
	d, s := begun(t)
	d.tape(s, 3, "0123456789abcdef")
	d.tape(s, 5, "of another one")
	for to := range 16 {
		if to == 3 {
			continue
		}
		closed := 0
		if to == 5 {
			closed = 1
		}
		d.dup(s, 3, to, closed)
		d.reads(s, to, 1, "0123456789abcdef"[to:to+1])
		d.reads(s, 3, 0, "")
		if to < 3 {
			d.reads(s, 5, 0, "")
		}
		if to == 2 {
			d.reads(s, 3, 1, "3")
		}
	}
	d.many(1)
	d.reads(s, 9, 99, "")
}

// ErrFd, and nothing is done, of a number that is not open, and to none.
func TestDupRefused(t *testing.T) {
	d, s := begun(t)
	d.tape(s, 3, "text")
	d.open(s, "f", r, 0)
	for _, no := range append(noNumbers, 1, 2, 4, 15) {
		for _, to := range append(noNumbers, 0, 1, 3, 15, no) {
			d.noDup(s, no, to)
		}
	}
	for _, no := range noNumbers {
		d.noDup(s, 3, no)
		d.noDup(s, 0, no)
	}
	d.held(2, 1)
	d.reads(s, 3, 99, "text")
	d.reads(s, 0, 99, "old")
}

// To itself nothing is done: what is open only there stays open.
func TestDupItself(t *testing.T) {
	d, s := begun(t)
	d.tape(s, 0, "text")
	d.sink(s, 1, 1)
	d.open(s, "f", r|w, 2)
	d.pipe(s, 3, 4)
	d.writes(s, 4, "through", 7)
	for fd := range 5 {
		for range 3 {
			d.same(func() { d.does("Dup", s.Dup(fd, fd), api.OK) })
		}
	}
	d.held(2, 1)
	d.reads(s, 0, 99, "text")
	d.writes(s, 1, "out", 3)
	d.reads(s, 2, 99, "old")
	d.reads(s, 3, 99, "through")
	d.noRead(s, 3, 1, api.ErrWait)
	d.writes(s, 4, "again", 5)
	for fd := range 5 {
		d.close(s, fd, 1)
	}
}

// What was open there is closed, if it was so nowhere else: a file is held no more, and an end leaves its pipe.
func TestDupCloses(t *testing.T) {
	d, s := begun(t)
	d.tape(s, 0, "text")
	d.open(s, "f", r, 1)
	d.dup(s, 1, 2, 0)
	d.dup(s, 0, 1, 0)
	d.held(2, 1)
	d.dup(s, 0, 2, 1)
	d.held(2, 0)
	d.pipe(s, 3, 4)
	d.dup(s, 4, 5, 0)
	d.writes(s, 5, "left", 4)
	d.dup(s, 0, 4, 0)
	d.reads(s, 3, 2, "le")
	d.dup(s, 3, 5, 1)
	d.reads(s, 5, 9, "ft")
	d.reads(s, 3, 9, "")
	d.dup(s, 0, 3, 0)
	d.dup(s, 0, 5, 1)
	// To a number that is open for the same.
	d.dup(s, 0, 5, 0)
	d.dup(s, 5, 0, 0)
	d.many(1)
	d.reads(s, 5, 9, "text")
}

// The number to is another one's from then on: the one that it was is closed without it.
func TestDupStands(t *testing.T) {
	d, s := begun(t)
	d.open(s, "f", r, 0)
	d.dup(s, 0, 7, 0)
	d.close(s, 0, 0)
	d.held(2, 1)
	d.noRead(s, 0, 1, api.ErrFd)
	d.reads(s, 7, 1, "o")
	d.dup(s, 7, 0, 0)
	d.close(s, 7, 0)
	d.reads(s, 0, 9, "ld")
	d.close(s, 0, 1)
	d.held(2, 0)
}

func TestClose(t *testing.T) {
	d, s := begun(t)
	for _, fd := range append(noNumbers, 0, 1, 15) {
		d.noClose(s, fd)
	}
	d.tape(s, 0, "text")
	d.sink(s, 5, 1)
	d.open(s, "f", r, 1)
	d.open(s, "d/g", r, 2)
	for _, fd := range append(noNumbers, 3, 4, 6, 15) {
		d.noClose(s, fd)
	}
	for _, fd := range []int{5, 1, 0, 2} {
		d.close(s, fd, 1)
		d.noClose(s, fd)
		d.noRead(s, fd, 1, api.ErrFd)
		d.noWrite(s, fd, "a", api.ErrFd)
		d.noDup(s, fd, 3)
	}
	d.list(s)
	d.held(2, 0)
	d.held(4, 0)
}

// A file is held as long as a number of any set is open for it.
func TestCloseFile(t *testing.T) {
	d, s := begun(t)
	d.open(s, "f", r|w, 0)
	d.open(s, "f", r, 1)
	d.held(2, 2)
	d.dup(s, 0, 2, 0)
	other := d.fork(s)
	d.held(2, 2)
	d.does("Unlink", d.f.Unlink(1, "f"), api.OK)
	d.close(s, 0, 0)
	d.close(s, 2, 0)
	d.close(other, 2, 0)
	d.held(2, 2)
	d.close(other, 0, 1)
	d.held(2, 1)
	d.contains(2, "old")
	d.close(other, 1, 0)
	d.reads(s, 1, 9, "old")
	d.close(s, 1, 1)
	if _, e := d.f.Stat(2); e != api.ErrNone {
		t.Fatalf("Stat: %d", int(e))
	}
}

// An end is one reader, one writer of its pipe, however many numbers are open for it.
func TestCloseEnds(t *testing.T) {
	d, s := begun(t)
	d.pipe(s, 0, 1)
	d.dup(s, 0, 2, 0)
	d.dup(s, 1, 3, 0)
	other := d.fork(s)
	d.writes(s, 1, "bytes", 5)
	for _, fd := range []int{1, 3} {
		d.close(s, fd, 0)
	}
	d.close(other, 3, 0)
	d.reads(s, 2, 2, "by")
	d.writes(other, 1, "more", 4)
	d.reads(other, 0, 3, "tes")
	d.close(other, 1, 1)
	d.reads(s, 0, 99, "more")
	for range 3 {
		d.reads(other, 2, 1, "")
	}
	// With the last reader the bytes are lost, and what is written then.
	d.pipe(other, 1, 3)
	d.writes(other, 3, strings.Repeat("a", 99), 64)
	d.noWrite(other, 3, "a", api.ErrWait)
	third := d.fork(other)
	d.close(other, 1, 0)
	d.noWrite(other, 3, "a", api.ErrWait)
	d.close(third, 1, 1)
	d.writes(other, 3, strings.Repeat("b", 99), 99)
	d.writes(third, 3, "", 0)
	d.close(other, 3, 0)
	d.writes(third, 3, "c", 1)
	d.close(third, 3, 1)
}

func TestFork(t *testing.T) {
	d, s := begun(t)
	d.list(d.fork(s))
	d.tape(s, 15, "text")
	d.sink(s, 1, 1)
	d.open(s, "f", r|w, 0)
	d.pipe(s, 2, 3)
	other := d.fork(s)
	third := d.fork(other)
	d.held(2, 1)
	d.many(5)
	// Each number is open for the same in all three.
	d.writes(third, 1, "a", 1)
	d.writes(s, 1, "b", 1)
	d.writes(other, 1, "c", 1)
	d.sunk(1, "abc")
	d.writes(other, 3, "through", 7)
	d.reads(s, 2, 4, "thro")
	d.reads(third, 2, 4, "ugh")
	d.reads(other, 0, 2, "ol")
	d.reads(third, 0, 9, "d")
	d.reads(s, 15, 1, "t")
	d.reads(third, 15, 9, "ext")
	// What is opened and closed in one is not in the others.
	d.close(other, 15, 0)
	d.tape(other, 15, "new")
	d.reads(s, 15, 9, "")
	d.dup(other, 15, 1, 0)
	d.writes(third, 1, "d", 1)
	d.noWrite(other, 1, "e", api.ErrMode)
	d.open(s, "d/g", r, 4)
	d.list(third, 0, 1, 2, 3, 15)
	d.pipe(third, 4, 5)
	d.list(other, 0, 1, 2, 3, 15)
	d.reads(s, 4, 9, "deep")
	d.sunk(1, "abcd")
}

func TestEnd(t *testing.T) {
	d, s := begun(t)
	d.same(s.End)
	d.tape(s, 15, "text")
	d.sink(s, 1, 1)
	d.writes(s, 1, "out", 3)
	d.open(s, "f", r|w, 0)
	d.pipe(s, 2, 3)
	d.dup(s, 0, 9, 0)
	other := d.fork(s)
	other.End()
	d.list(other)
	d.list(s, 0, 1, 2, 3, 9, 15)
	d.many(5)
	d.held(2, 1)
	d.pipe(other, 0, 1)
	other.End()
	d.many(5)
	d.noRead(s, 2, 1, api.ErrWait)
	s.End()
	d.list(s)
	d.many(0)
	d.held(2, 0)
	d.sunk(1, "out")
	d.same(s.End)
	// It is an empty set then, as others.
	d.open(s, "f", r, 0)
	d.reads(s, 0, 9, "old")
	d.sink(s, 1, 2)
	d.list(s, 0, 1)
}

// The ends that another set has are alone with the End.
func TestEndLeavesPipes(t *testing.T) {
	d, s := begun(t)
	d.pipe(s, 0, 1)
	d.pipe(s, 2, 3)
	other := d.fork(s)
	d.close(other, 1, 0)
	d.close(other, 2, 0)
	d.writes(s, 1, "last", 4)
	d.writes(other, 3, strings.Repeat("a", 64), 64)
	d.noWrite(other, 3, "a", api.ErrWait)
	s.End()
	d.many(2)
	d.reads(other, 0, 9, "last")
	d.reads(other, 0, 9, "")
	d.writes(other, 3, "lost", 4)
}

// Rising, however they were opened; and the answer is the caller's.
func TestList(t *testing.T) {
	d, s := begun(t)
	for i := range 16 {
		d.tape(s, (i*11+5)%16, "")
	}
	all := s.List()
	for i := range all {
		all[i] = 99
	}
	d.list(s, 0, 1, 2, 3, 4, 5, 6, 7, 8, 9, 10, 11, 12, 13, 14, 15)
	d.close(s, 0, 1)
	d.close(s, 8, 1)
	d.list(s, 1, 2, 3, 4, 5, 6, 7, 9, 10, 11, 12, 13, 14, 15)
	some := s.List()
	_ = append(some[:2], 99, 99)
	d.list(s, 1, 2, 3, 4, 5, 6, 7, 9, 10, 11, 12, 13, 14, 15)
	s.End()
	d.list(s)
}
