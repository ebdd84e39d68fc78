package inodes_test

import (
	"strconv"
	"strings"
	"testing"

	"conch/api"
	"conch/inodes"
)

const (
	most  = int(^uint(0) >> 1)
	least = -most - 1
	part  = api.BlockSize
	top   = api.MaxFile * api.BlockSize
)

func zeros(n int) string { return strings.Repeat("\x00", n) }

// made is a table that may have so many nodes and blocks.
func made(t *testing.T, nodes, blocks int) *inodes.Table {
	t.Helper()
	x, e := inodes.New(nodes, blocks)
	if x == nil || e != api.OK {
		t.Fatalf("New(%d, %d): %v, %d", nodes, blocks, x, int(e))
	}
	return x
}

// files is a table that may have so many nodes and blocks, and has so many files, each with a name.
func files(t *testing.T, nodes, blocks, n int) *inodes.Table {
	t.Helper()
	x := made(t, nodes, blocks)
	for want := 1; want <= n; want++ {
		node(t, x, inodes.File, want, api.OK)
		does(t, "Tie", x.Tie(want), api.OK)
	}
	return x
}

func node(t *testing.T, x *inodes.Table, kind, want int, wrong api.Errno) {
	t.Helper()
	if i, e := x.Make(kind); i != want || e != wrong {
		t.Fatalf("Make(%d): %d, %d; want %d, %d", kind, i, int(e), want, int(wrong))
	}
}

// does holds what a call answered against what it is to answer.
func does(t *testing.T, name string, e, wrong api.Errno) {
	t.Helper()
	if e != wrong {
		t.Fatalf("%s: %d; want %d", name, int(e), int(wrong))
	}
}

func read(t *testing.T, x *inodes.Table, i, at, n int, want string, wrong api.Errno) {
	t.Helper()
	if data, e := x.Read(i, at, n); data != want || e != wrong {
		t.Fatalf("Read(%d, %d, %d): %q, %d; want %q, %d", i, at, n, data, int(e), want, int(wrong))
	}
}

// has is a node's bytes, all of them.
func has(t *testing.T, x *inodes.Table, i int, want string) {
	t.Helper()
	read(t, x, i, 0, most, want, api.OK)
	if n := x.Size(i); n != len(want) {
		t.Fatalf("Size(%d): %d; want %d", i, n, len(want))
	}
}

func write(t *testing.T, x *inodes.Table, i, at int, data string, want int, wrong api.Errno) {
	t.Helper()
	if n, e := x.Write(i, at, data); n != want || e != wrong {
		t.Fatalf("Write(%d, %d, %.80q): %d, %d; want %d, %d", i, at, data, n, int(e), want, int(wrong))
	}
}

func cut(t *testing.T, x *inodes.Table, i, size int, wrong api.Errno) {
	t.Helper()
	if e := x.Cut(i, size); e != wrong {
		t.Fatalf("Cut(%d, %d): %d; want %d", i, size, int(e), int(wrong))
	}
}

func free(t *testing.T, x *inodes.Table, nodes, blocks int) {
	t.Helper()
	if n, b := x.Free(); n != nodes || b != blocks {
		t.Fatalf("Free: %d, %d; want %d, %d", n, b, nodes, blocks)
	}
}

// tells holds what is said of a node against what is to be said.
func tells(t *testing.T, x *inodes.Table, i, kind, size, links int) {
	t.Helper()
	if k, n, l := x.Kind(i), x.Size(i), x.Links(i); k != kind || n != size || l != links {
		t.Fatalf("%d: kind %d, size %d, links %d; want %d, %d, %d", i, k, n, l, kind, size, links)
	}
}

// none holds every call of a number that no node has.
func none(t *testing.T, x *inodes.Table, i int, wrong api.Errno) {
	t.Helper()
	tells(t, x, i, 0, 0, 0)
	does(t, "Tie", x.Tie(i), wrong)
	does(t, "Untie", x.Untie(i), wrong)
	does(t, "Hold", x.Hold(i), wrong)
	does(t, "Loose", x.Loose(i), wrong)
	for _, at := range []int{least, -1, 0, 1, top, top + 1, most} {
		read(t, x, i, at, 0, "", wrong)
		read(t, x, i, 0, at, "", wrong)
		write(t, x, i, at, "", 0, wrong)
		write(t, x, i, at, "a", 0, wrong)
		cut(t, x, i, at, wrong)
	}
}

// shown is all that a table that may have so many nodes tells of them, but for their users.
func shown(t *testing.T, x *inodes.Table, nodes int) string {
	t.Helper()
	var out strings.Builder
	for i := 0; i <= nodes+1; i++ {
		kind := x.Kind(i)
		data, e := x.Read(i, 0, top)
		if (kind == 0) != (e == api.ErrNone) || len(data) != x.Size(i) {
			t.Fatalf("%d: kind %d, size %d, %q, %d", i, kind, x.Size(i), data, int(e))
		}
		out.WriteString(one(i, kind, x.Links(i), data))
	}
	n, b := x.Free()
	out.WriteString(strconv.Itoa(n) + " " + strconv.Itoa(b))
	return out.String()
}

// one is what shown says of a node.
func one(i, kind, links int, data string) string {
	return strconv.Itoa(i) + ": " + strconv.Itoa(kind) + " " + strconv.Itoa(links) + " " + strconv.Quote(data) + "\n"
}

// users is how many users a node of the table has: as many as can be taken away, of a copy that first has a name.
func users(t *testing.T, x *inodes.Table, i int) int {
	t.Helper()
	c := x.Copy()
	if c.Tie(i) != api.OK {
		return 0
	}
	n := 0
	for n < 100 && c.Loose(i) == api.OK {
		n++
	}
	return n
}
