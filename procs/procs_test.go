package procs_test

import (
	"fmt"
	"slices"
	"testing"

	"conch/api"
	"conch/procs"
)

// P17.1: what a table is made for, how a process is made, and what is told.

func TestStates(t *testing.T) {
	if procs.Ready != 1 || procs.Blocked != 2 || procs.Zombie != 3 {
		t.Fatal(procs.Ready, procs.Blocked, procs.Zombie)
	}
}

func TestNew(t *testing.T) {
	for _, n := range []int{least, -1024, -1, 0, 1025, 1026, 2048, most} {
		if x, e := procs.New(n); x != nil || e != api.ErrArg {
			t.Fatalf("New(%d): %v, %d", n, x, int(e))
		}
	}
	for _, n := range []int{1, 2, 3, 64, 1023, 1024} {
		d := begun(t, n)
		for pid := range n {
			if got, e := d.x.Fork(pid); got != pid+1 || e != api.OK {
				t.Fatalf("New(%d), Fork(%d): %d, %d", n, pid, got, int(e))
			}
		}
		d.noFork(0, api.ErrProcs)
		d.noFork(n, api.ErrProcs)
		if d.x.Many() != n || len(d.x.Ready()) != n {
			t.Fatalf("New(%d): %d, %v", n, d.x.Many(), d.x.Ready())
		}
	}
}

// Nothing that happens to one table happens to another.
func TestTablesApart(t *testing.T) {
	one, other := begun(t, 1), begun(t, 3)
	one.fork(0, 1)
	other.tells("")
	other.fork(0, 1)
	other.fork(1, 2)
	other.does("Exit", other.x.Exit(1, 5), api.OK)
	one.tells("1R")
	other.tells("2R")
	one.noFork(0, api.ErrProcs)
	other.fork(2, 1)
}

// Whichever numbers are free, the least of them is given, with a parent and without.
func TestForkLeast(t *testing.T) {
	const n = 6
	for mask := range 1 << n {
		for _, parent := range []int{0, n + 1} {
			d := begun(t, room)
			for pid := range n + 1 {
				d.fork(0, pid+1)
			}
			var free []int
			for i := range n {
				if mask>>i&1 == 1 {
					d.does("Exit", d.x.Exit(i+1, 0), api.OK)
					free = append(free, i+1)
				}
			}
			for _, want := range append(free, n+2) {
				d.fork(parent, want)
			}
			d.noFork(parent, api.ErrProcs)
		}
	}
}

// The number of a Zombie is not free till it is taken up.
func TestForkZombie(t *testing.T) {
	d := made(t, "1R 2Z<1 3R<1")
	d.fork(1, 4)
	d.wait(1, 0, 2, 102)
	d.fork(3, 2)
	d.tells("1R 2R<3 3R<1 4R<1")
}

// A parent may be Blocked, and stays it; the new one is Ready.
func TestForkOfBlocked(t *testing.T) {
	d := made(t, "1B 2B<1 3Z<2")
	d.fork(1, 4)
	d.fork(2, 5)
	d.tells("1B 2B<1 3Z<2 4R<1 5R<2")
}

func TestForkNone(t *testing.T) {
	d := made(t, "1R 2Z<1 4B<1")
	for _, parent := range append(none(), 2, 3, 5, 6, 8) {
		if parent != 0 {
			d.noFork(parent, api.ErrNone)
		}
	}
}

// Zombies and Blocked ones take room too; of a parent that does not live it is ErrNone, be there room or not.
func TestForkProcs(t *testing.T) {
	d := made(t, "1R 2Z<1 3Z<1 4B<1 5Z<4 6R<4 7R<1 8B")
	for _, parent := range []int{0, 1, 4, 6, 7, 8} {
		d.noFork(parent, api.ErrProcs)
	}
	for _, parent := range []int{least, -1, 2, 3, 5, 9, most} {
		d.noFork(parent, api.ErrNone)
	}
	d.wait(1, 3, 3, 103)
	d.fork(8, 3)
	d.noFork(0, api.ErrProcs)
}

func TestTold(t *testing.T) {
	d := made(t, "1B 2R<1 4Z<2 6B<2 7R<6 8R")
	for pid, want := range map[int][2]int{1: {procs.Blocked, 0}, 2: {procs.Ready, 1}, 4: {procs.Zombie, 2}, 6: {procs.Blocked, 2}, 7: {procs.Ready, 6}, 8: {procs.Ready, 0}} {
		if s, p := d.x.State(pid), d.x.Parent(pid); s != want[0] || p != want[1] {
			t.Fatalf("%d: %d, %d; want %v", pid, s, p, want)
		}
	}
	for _, pid := range append(none(), 3, 5) {
		if s, p := d.x.State(pid), d.x.Parent(pid); s != 0 || p != 0 {
			t.Fatalf("%d: %d, %d", pid, s, p)
		}
	}
	if got := d.x.Ready(); !slices.Equal(got, []int{2, 7, 8}) || d.x.Many() != 6 {
		t.Fatal(got, d.x.Many())
	}
}

// The numbers that are Ready are rising, however many there are and however they came to be it.
func TestReadyRising(t *testing.T) {
	const n = 1024
	d := begun(t, n)
	var want []int
	for pid := range n {
		d.x.Fork(pid)
		want = append(want, pid+1)
	}
	for range 5 {
		if got := d.x.Ready(); !slices.Equal(got, want) {
			t.Fatal(got)
		}
	}
	for pid := n; pid > 0; pid -= 3 {
		d.does("Block", d.x.Block(pid), api.OK)
	}
	want = slices.DeleteFunc(want, func(pid int) bool { return (n-pid)%3 == 0 })
	if got := d.x.Ready(); !slices.Equal(got, want) {
		t.Fatal(got)
	}
}

// What Ready answers is the caller's.
func TestReadyStays(t *testing.T) {
	d := made(t, "1R 2R<1 3R<2")
	was, other := d.x.Ready(), d.x.Ready()
	was[0], was[2] = 9, 0
	if !slices.Equal(other, []int{1, 2, 3}) {
		t.Fatal(other)
	}
	d.tells("1R 2R<1 3R<2")
	d.does("Block", d.x.Block(1), api.OK)
	d.does("Exit", d.x.Exit(3, 0), api.OK)
	if !slices.Equal(other, []int{1, 2, 3}) {
		t.Fatal(other)
	}
}

// Of a nil table nothing is told, and all else is ErrNil, whatever it is given.
func TestNil(t *testing.T) {
	d := &desk{T: t}
	for _, n := range append(none(), 1, 2) {
		d.noFork(n, api.ErrNil)
		d.refuses("Block", func() api.Errno { return d.x.Block(n) }, api.ErrNil)
		d.refuses("Wake", func() api.Errno { return d.x.Wake(n) }, api.ErrNil)
		for _, m := range append(none(), 1, 2) {
			d.refuses("Exit", func() api.Errno { return d.x.Exit(n, m) }, api.ErrNil)
			d.noWait(n, m, api.ErrNil)
		}
		if s, p := d.x.State(n), d.x.Parent(n); s != 0 || p != 0 {
			t.Fatal(n, s, p)
		}
	}
	if got := d.x.Ready(); len(got) != 0 || d.x.Many() != 0 {
		t.Fatal(got, d.x.Many())
	}
}

// In a table that New did not make there is no room, and no process.
func TestNotMade(t *testing.T) {
	d := &desk{T: t, x: &procs.Table{}}
	d.noFork(0, api.ErrProcs)
	d.noFork(1, api.ErrNone)
	d.nobody(0)
	d.nobody(1)
	d.noWait(1, -1, api.ErrNone)
	d.tells("")
}

// nobody holds the calls of a process that does not live.
func (d *desk) nobody(pid int) {
	d.Helper()
	d.refuses("Block", func() api.Errno { return d.x.Block(pid) }, api.ErrNone)
	d.refuses("Wake", func() api.Errno { return d.x.Wake(pid) }, api.ErrNone)
	d.refuses("Exit", func() api.Errno { return d.x.Exit(pid, 1) }, api.ErrNone)
	for _, child := range []int{least, -1, 0, 1, 2, most} {
		d.noWait(pid, child, api.ErrNone)
	}
}

// Whatever the call, one that does not live is ErrNone: a Zombie, a number of none, a number that never was (P17.2 to P17.4).
func TestNobody(t *testing.T) {
	d := made(t, "1R 2R<1 3Z<2 5Z<1 6B<2 8R")
	for _, pid := range append(none(), 3, 4, 5, 7) {
		d.nobody(pid)
	}
	d.wait(2, 0, 3, 103)
	d.nobody(3)
	d.does("Exit", d.x.Exit(8, 1), api.OK)
	d.nobody(8)
	d.wait(1, 5, 5, 105)
}

// P17.2: who waits.

func TestBlockWake(t *testing.T) {
	d := made(t, "1R 2B<1 3Z<2 4R<2 5B")
	for _, c := range []struct {
		name string
		call func(int) api.Errno
		pid  int
		want string
	}{
		{"Block", d.x.Block, 1, "1B 2B<1 3Z<2 4R<2 5B"},
		{"Block", d.x.Block, 1, "1B 2B<1 3Z<2 4R<2 5B"},
		{"Block", d.x.Block, 4, "1B 2B<1 3Z<2 4B<2 5B"},
		{"Wake", d.x.Wake, 2, "1B 2R<1 3Z<2 4B<2 5B"},
		{"Wake", d.x.Wake, 2, "1B 2R<1 3Z<2 4B<2 5B"},
		{"Wake", d.x.Wake, 5, "1B 2R<1 3Z<2 4B<2 5R"},
		{"Wake", d.x.Wake, 1, "1R 2R<1 3Z<2 4B<2 5R"},
		{"Block", d.x.Block, 5, "1R 2R<1 3Z<2 4B<2 5B"},
		{"Block", d.x.Block, 2, "1R 2B<1 3Z<2 4B<2 5B"},
	} {
		d.does(c.name, c.call(c.pid), api.OK)
		d.tells(c.want)
	}
	d.wait(2, 0, 3, 103)
}

// P17.3: how a process ends.

func TestExit(t *testing.T) {
	for _, c := range []struct {
		was  string
		pid  int
		want string
	}{
		// one without a parent, and one with it, which waits or does not
		{"1R", 1, ""},
		{"1B", 1, ""},
		{"1R 2R", 2, "1R"},
		{"1B 2B", 2, "1B"},
		{"1R 2R<1", 2, "1R 2Z<1"},
		{"1R 2B<1", 2, "1R 2Z<1"},
		{"1B 2R<1", 2, "1R 2Z<1"},
		{"1B 2B<1", 2, "1R 2Z<1"},
		{"1B 2B<1 3R<2 4B<2 5B<3", 3, "1B 2R<1 3Z<2 4B<2 5B<1"},
		{"1B 2B 3R<2", 3, "1B 2R 3Z<2"},
		{"3R 5R<3", 5, "3R 5Z<3"},

		// its children are process 1's
		{"1R 2R<1 3R<2 4B<2 5Z<2", 2, "1R 2Z<1 3R<1 4B<1 5Z<1"},
		{"1R 2R<1 3R<2 4R<3 5B<4", 2, "1R 2Z<1 3R<1 4R<3 5B<4"},
		{"1R 2R 3R<2 4Z<2", 2, "1R 3R<1 4Z<1"},
		{"1R 3R 4R<3 5B<3 6R<4 7R<5", 3, "1R 4R<1 5B<1 6R<4 7R<5"},
		{"1R 2R<3 3R<1 4R<3", 3, "1R 2R<1 3Z<1 4R<1"},

		// process 1 waits no more with a Zombie more, and with it alone
		{"1B 2R 3Z<2", 2, "1R 3Z<1"},
		{"1B 2R 3R<2 4Z<2 5B<2", 2, "1R 3R<1 4Z<1 5B<1"},
		{"1B 2R 3R<2 4B<2", 2, "1B 3R<1 4B<1"},
		{"1B 2R 3R<2 4Z<3", 2, "1B 3R<1 4Z<3"},
		{"1B 2R<1 3Z<2", 2, "1R 2Z<1 3Z<1"},
		{"1B 2B 3R<2 4R<3", 3, "1B 2R 3Z<2 4R<1"},
		{"1B 2B 3R<2 4Z<3", 3, "1R 2R 3Z<2 4Z<1"},
		{"1B 2R 3Z<1", 2, "1B 3Z<1"},

		// process 1 ends itself
		{"1R 2R<1 3Z<1 4B<1 5R<2 6Z<2", 1, "2R 4B 5R<2 6Z<2"},
		{"1B 2Z<1 3Z<1", 1, ""},
		{"1R 2R 3R<2", 1, "2R 3R<2"},

		// there is no process 1
		{"2R 3R<2 4Z<3 5R<3 6B<3", 3, "2R 3Z<2 5R 6B"},
		{"2B 3R<2 4Z<3", 3, "2R 3Z<2"},
		{"2R 3R<2 4Z<2", 2, "3R"},

		// process 1 is a Zombie
		{"1Z<2 2R 3R<2 4R<3 5Z<3", 3, "1Z<2 2R 3Z<2 4R"},
		{"1Z<2 2R 3R<2", 2, "3R"},
		{"1Z<2 2B 3R 4Z<3", 3, "1Z<2 2B"},

		// process 1 has a parent
		{"1R<2 2R 3R<2 4R<3 5Z<3", 3, "1R<2 2R 3Z<2 4R"},
		{"1B<2 2R 3R 4Z<3 5R<3", 3, "1B<2 2R 5R"},
		{"1R<2 2R 3R<2 4Z<2", 2, "1R 3R"},
		{"1B<2 2R<3 3R 4Z<2 5R<2", 2, "1B 2Z<3 3R 5R"},
		{"1R<2 2R<3 3R 4R<3", 3, "1R<2 2R 4R"},
		{"1R<2 2B 3R<1 4Z<1 5B<1", 1, "1Z<2 2R 3R 5B"},
	} {
		d := made(t, c.was)
		d.does(fmt.Sprintf("Exit(%d) of %q", c.pid, c.was), d.x.Exit(c.pid, 7), api.OK)
		d.tells(c.want)
	}
}

// Any status is told, once, and the first: one that has ended does not end again.
func TestExitStatus(t *testing.T) {
	for _, status := range []int{least, -1, 0, 1, 127, 128, 255, 256, most} {
		d := made(t, "1R 2R<1 3B<1")
		d.does("Exit", d.x.Exit(3, status), api.OK)
		d.refuses("Exit", func() api.Errno { return d.x.Exit(3, 55) }, api.ErrNone)
		d.does("Exit", d.x.Exit(2, 44), api.OK)
		d.wait(1, 3, 3, status)
		d.wait(1, 0, 2, 44)
		d.noWait(1, 0, api.ErrChild)
	}
}

// A Zombie that is given to process 1 keeps its status.
func TestExitKeepsStatus(t *testing.T) {
	d := made(t, "1B 2R<1 3R<2 4R<2 5R<3")
	d.does("Exit", d.x.Exit(4, 40), api.OK)
	d.does("Exit", d.x.Exit(2, 20), api.OK)
	d.does("Exit", d.x.Exit(5, 50), api.OK)
	d.does("Exit", d.x.Exit(3, 30), api.OK)
	d.tells("1R 2Z<1 3Z<1 4Z<1 5Z<1")
	for _, pid := range []int{2, 3, 4, 5} {
		d.wait(1, 0, pid, pid*10)
	}
	d.noWait(1, 0, api.ErrChild)
}

// The status of one whose number is given anew is not told of the new one.
func TestStatusIsNotLeft(t *testing.T) {
	d := made(t, "1R 2Z<1")
	d.wait(1, 2, 2, 102)
	d.fork(1, 2)
	d.noWait(1, 2, api.ErrWait)
	d.does("Exit", d.x.Exit(2, 0), api.OK)
	d.wait(1, 2, 2, 0)
}

// P17.4: who is taken up.

func TestWait(t *testing.T) {
	const all = "1R 2B<1 3Z<1 4Z<2 5R<1 6Z<1 7Z<5 8B"
	for _, c := range []struct{ pid, child, want int }{
		{1, 0, 3}, {1, 3, 3}, {1, 6, 6}, {2, 0, 4}, {2, 4, 4}, {5, 0, 7}, {5, 7, 7},
	} {
		made(t, all).wait(c.pid, c.child, c.want, 100+c.want)
	}
	d := made(t, all)
	d.wait(1, 0, 3, 103)
	d.noWait(1, 3, api.ErrChild)
	d.wait(1, 0, 6, 106)
	d.noWait(1, 0, api.ErrWait)
	d.wait(5, 0, 7, 107)
	d.noWait(5, 0, api.ErrChild)
	d.tells("1R 2B<1 4Z<2 5R<1 8B")
}

func TestWaitRefused(t *testing.T) {
	d := made(t, "1R 2B<1 3Z<1 4Z<2 5R<1 6R<5 7R<2 8B")
	for _, c := range []struct {
		pid, child int
		wrong      api.Errno
	}{
		// below 0, with children and without
		{1, -1, api.ErrArg}, {1, least, api.ErrArg}, {8, -1, api.ErrArg}, {6, -3, api.ErrArg}, {2, -4, api.ErrArg},
		// no child, or none of its children: itself, its parent, a child's child, another's, a number of none
		{8, 0, api.ErrChild}, {6, 0, api.ErrChild}, {7, 0, api.ErrChild}, {1, 1, api.ErrChild}, {2, 1, api.ErrChild}, {6, 5, api.ErrChild},
		{1, 4, api.ErrChild}, {1, 7, api.ErrChild}, {5, 4, api.ErrChild}, {5, 3, api.ErrChild}, {1, 8, api.ErrChild}, {1, 9, api.ErrChild},
		{1, most, api.ErrChild}, {8, 3, api.ErrChild}, {8, 1024, api.ErrChild},
		// a child, but no Zombie; of any, none
		{1, 2, api.ErrWait}, {1, 5, api.ErrWait}, {2, 7, api.ErrWait}, {5, 6, api.ErrWait}, {5, 0, api.ErrWait},
	} {
		d.noWait(c.pid, c.child, c.wrong)
	}
}

// Whichever of its children have ended, in whatever order, the least number comes first.
func TestWaitLeast(t *testing.T) {
	const n = 6
	for mask := range 1 << n {
		for _, down := range []bool{false, true} {
			d := made(t, "1R 2R<1 3R<1 4R<1 5R<1 6R<1 7R<1 8R<2")
			var ended []int
			for i := range n {
				if mask>>i&1 == 1 {
					ended = append(ended, i+2)
				}
			}
			order := slices.Clone(ended)
			if down {
				slices.Reverse(order)
			}
			for i, pid := range order {
				d.does("Exit", d.x.Exit(pid, pid*1000+i), api.OK)
			}
			for _, pid := range ended {
				d.wait(1, 0, pid, pid*1000+slices.Index(order, pid))
			}
			d.noWait(1, 0, api.ErrWait)
		}
	}
}

// Wait of one that waits takes up a child too, and it stays Blocked; one that ErrWait is answered to is not Blocked by it.
func TestWaitOfBlocked(t *testing.T) {
	d := made(t, "1B 2Z<1 3R<1")
	d.wait(1, 0, 2, 102)
	d.noWait(1, 0, api.ErrWait)
	d.tells("1B 3R<1")
	d.noWait(3, 0, api.ErrChild)
	d.does("Wake", d.x.Wake(1), api.OK)
	d.noWait(1, 3, api.ErrWait)
	d.tells("1R 3R<1")
}
