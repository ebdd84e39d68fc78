package files_test

import (
	"fmt"
	"strings"
	"testing"

	"conch/api"
	"conch/files"
	"conch/inodes"
	"conch/names"
)

const (
	most  = int(^uint(0) >> 1)
	least = -most - 1
	part  = api.BlockSize
	top   = api.MaxFile * api.BlockSize
)

// Short names of the flags.
const (
	r  = files.Read
	w  = files.Write
	a  = files.Append
	c  = files.Create
	tr = files.Trunc
	x  = files.Excl
)

// made is a tree that may have so many nodes and blocks, and has the root.
func made(t *testing.T, nodes, blocks int) *names.FS {
	t.Helper()
	f, e := names.New(nodes, blocks)
	does(t, "New", e, api.OK)
	return f
}

// does holds what a call answered against what it is to answer.
func does(t *testing.T, name string, e, wrong api.Errno) {
	t.Helper()
	if e != wrong {
		t.Fatalf("%s: %d; want %d", name, int(e), int(wrong))
	}
}

// node is the node to which a path leads from the root.
func node(t *testing.T, f *names.FS, path string) int {
	t.Helper()
	n, e := f.Walk(1, path, true)
	does(t, "Walk of "+path, e, api.OK)
	return n
}

// file makes a file of these bytes, and answers its number.
func file(t *testing.T, f *names.FS, path, data string) int {
	t.Helper()
	n, e := f.Make(1, path)
	does(t, "Make of "+path, e, api.OK)
	fill(t, f, n, data)
	return n
}

// fill gives a node just these bytes.
func fill(t *testing.T, f *names.FS, node int, data string) {
	t.Helper()
	does(t, "Cut", f.Cut(node, 0), api.OK)
	if n, e := f.Write(node, 0, data); n != len(data) || e != api.OK {
		t.Fatalf("Write(%d, 0, %.80q): %d, %d", node, data, n, int(e))
	}
}

// contains holds a node's bytes, all of them.
func contains(t *testing.T, f *names.FS, node int, want string) {
	t.Helper()
	if data, e := f.Read(node, 0, most); data != want || e != api.OK {
		t.Fatalf("%d: %q, %d; want %q", node, data, int(e), want)
	}
}

// free holds how many nodes may still be made, and how many blocks are free.
func free(t *testing.T, f *names.FS, nodes, blocks int) {
	t.Helper()
	if n, b := f.Free(); n != nodes || b != blocks {
		t.Fatalf("Free: %d, %d; want %d, %d", n, b, nodes, blocks)
	}
}

// users is how many users a node has: as many as can be taken away of a copy.
func users(f *names.FS, node int) int {
	of := f.Copy()
	n := 0
	for n < 100 && of.Loose(node) == api.OK {
		n++
	}
	return n
}

func held(t *testing.T, f *names.FS, node, want int) {
	t.Helper()
	if n := users(f, node); n != want {
		t.Fatalf("%d has %d users; want %d", node, n, want)
	}
}

// open opens a file from the root, which is to be as one that was just opened.
func open(t *testing.T, f *names.FS, path string, flags int) *files.File {
	t.Helper()
	o, e := files.Open(f, 1, path, flags)
	if o == nil || e != api.OK || o.At() != 0 {
		t.Fatalf("Open(1, %.300q, %d): %v, %d", path, flags, o, int(e))
	}
	return o
}

// refused holds an Open that answers an error, and changes nothing.
func refused(t *testing.T, f *names.FS, dir int, path string, flags int, wrong api.Errno) {
	t.Helper()
	was := shown(f, 20)
	if o, e := files.Open(f, dir, path, flags); o != nil || e != wrong {
		t.Fatalf("Open(%d, %.300q, %d): %v, %d; want %d", dir, path, flags, o, int(e), int(wrong))
	}
	if now := shown(f, 20); now != was {
		t.Fatalf("Open(%d, %.300q, %d): %s; want %s", dir, path, flags, now, was)
	}
}

// reads holds a Read, and the place behind it.
func reads(t *testing.T, o *files.File, n int, want string) {
	t.Helper()
	was := o.At()
	if data, e := o.Read(n); data != want || e != api.OK {
		t.Fatalf("Read(%d) at %d: %q, %d; want %q", n, was, data, int(e), want)
	}
	at(t, o, was+len(want))
}

// writes holds a Write of which so many bytes are written, and the place behind it.
func writes(t *testing.T, o *files.File, data string, want, behind int) {
	t.Helper()
	if n, e := o.Write(data); n != want || e != api.OK {
		t.Fatalf("Write(%.80q): %d, %d; want %d", data, n, int(e), want)
	}
	at(t, o, behind)
}

func at(t *testing.T, o *files.File, want int) {
	t.Helper()
	if n := o.At(); n != want {
		t.Fatalf("At: %d; want %d", n, want)
	}
}

// noRead and noWrite hold a call that answers an error, and changes nothing of the file and the tree; noAppend one that comes to the end even so.
func noRead(t *testing.T, f *names.FS, o *files.File, n int, wrong api.Errno) {
	t.Helper()
	same(t, f, o, fmt.Sprintf("Read(%d)", n), func() {
		if data, e := o.Read(n); data != "" || e != wrong {
			t.Fatalf("Read(%d): %q, %d; want %d", n, data, int(e), int(wrong))
		}
	})
}

func noWrite(t *testing.T, f *names.FS, o *files.File, data string, wrong api.Errno) {
	t.Helper()
	same(t, f, o, fmt.Sprintf("Write(%.80q)", data), func() {
		if n, e := o.Write(data); n != 0 || e != wrong {
			t.Fatalf("Write(%.80q): %d, %d; want %d", data, n, int(e), int(wrong))
		}
	})
}

func noAppend(t *testing.T, f *names.FS, o *files.File, data string, wrong api.Errno, end int) {
	t.Helper()
	was, of := shown(f, 20), o.Node()
	if n, e := o.Write(data); n != 0 || e != wrong {
		t.Fatalf("Write(%.80q): %d, %d; want %d", data, n, int(e), int(wrong))
	}
	if now := shown(f, 20); now != was || o.At() != end || o.Node() != of {
		t.Fatalf("Write(%.80q): at %d of %d, %s; want %d of %d, %s", data, o.At(), o.Node(), now, end, of, was)
	}
}

// same holds that something changes nothing.
func same(t *testing.T, f *names.FS, o *files.File, name string, do func()) {
	t.Helper()
	was, place, of := shown(f, 20), o.At(), o.Node()
	do()
	if now := shown(f, 20); now != was || o.At() != place || o.Node() != of {
		t.Fatalf("%s: at %d of %d, %s; want %d of %d, %s", name, o.At(), o.Node(), now, place, of, was)
	}
}

// closed holds all that a file that is closed answers.
func closed(t *testing.T, f *names.FS, o *files.File) {
	t.Helper()
	for _, n := range []int{least, -1, 0, 1, most} {
		noRead(t, f, o, n, api.ErrFd)
	}
	for _, data := range []string{"", "a", strings.Repeat("a", top+1)} {
		noWrite(t, f, o, data, api.ErrFd)
	}
	same(t, f, o, "Close", func() { does(t, "Close", o.Close(), api.ErrFd) })
}

// shown is all that a tree tells of so many nodes.
func shown(f *names.FS, nodes int) string {
	var out strings.Builder
	for i := 1; i <= nodes; i++ {
		info, e := f.Stat(i)
		if e != api.OK {
			continue
		}
		fmt.Fprintf(&out, "%d: %v, %d users", i, info, users(f, i))
		if info.Kind == inodes.File {
			data, e := f.Read(i, 0, most)
			fmt.Fprintf(&out, ", %q, %d", data, int(e))
		}
		out.WriteString("\n")
	}
	n, b := f.Free()
	fmt.Fprintf(&out, "free %d, %d\n", n, b)
	return out.String() + f.Print()
}

// some is a tree with room for 20 nodes and blocks:
//
//	/f 2 "old", /d/ 3, /d/g 4 "deep", /to -> f 5, /in -> d 6, /far -> d/g 7, /no -> nowhere 8, /x -> x 9, /d/up -> ../f 10
func some(t *testing.T) *names.FS {
	t.Helper()
	f := made(t, 20, 20)
	file(t, f, "f", "old")
	does(t, "Mkdir", f.Mkdir(1, "d"), api.OK)
	file(t, f, "d/g", "deep")
	for _, l := range []struct{ text, path string }{{"f", "to"}, {"d", "in"}, {"d/g", "far"}, {"nowhere", "no"}, {"x", "x"}, {"../f", "d/up"}} {
		does(t, "Symlink", f.Symlink(1, l.text, l.path), api.OK)
	}
	free(t, f, 10, 12)
	return f
}
