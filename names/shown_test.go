package names_test

import (
	"fmt"
	"strings"
	"testing"

	"conch/api"
	"conch/inodes"
	"conch/names"
)

const (
	most  = int(^uint(0) >> 1)
	least = -most - 1
	top   = api.MaxFile * api.BlockSize
)

// made is a tree that may have so many nodes and blocks, and has the root.
func made(t *testing.T, nodes, blocks int) *names.FS {
	t.Helper()
	f, e := names.New(nodes, blocks)
	if f == nil || e != api.OK {
		t.Fatalf("New(%d, %d): %v, %d", nodes, blocks, f, int(e))
	}
	return f
}

// does holds what a call answered against what it is to answer.
func does(t *testing.T, name string, e, wrong api.Errno) {
	t.Helper()
	if e != wrong {
		t.Fatalf("%s: %d; want %d", name, int(e), int(wrong))
	}
}

func walk(t *testing.T, f *names.FS, dir int, path string, follow bool, want int, wrong api.Errno) {
	t.Helper()
	if n, e := f.Walk(dir, path, follow); n != want || e != wrong {
		t.Fatalf("Walk(%d, %.300q, %v): %d, %d; want %d, %d", dir, path, follow, n, int(e), want, int(wrong))
	}
}

// both holds a walk that follows, and one that does not, where it is all the same.
func both(t *testing.T, f *names.FS, dir int, path string, want int, wrong api.Errno) {
	t.Helper()
	walk(t, f, dir, path, true, want, wrong)
	walk(t, f, dir, path, false, want, wrong)
}

// node is the node to which a path leads from the root; a link at its end is not followed.
func node(t *testing.T, f *names.FS, path string) int {
	t.Helper()
	n, e := f.Walk(1, path, false)
	if e != api.OK {
		t.Fatalf("Walk(1, %.300q, false): %d", path, int(e))
	}
	return n
}

func file(t *testing.T, f *names.FS, dir int, path string) int {
	t.Helper()
	n, e := f.Make(dir, path)
	if e != api.OK {
		t.Fatalf("Make(%d, %.300q): %d", dir, path, int(e))
	}
	return n
}

func mkdir(t *testing.T, f *names.FS, dir int, path string) int {
	t.Helper()
	does(t, fmt.Sprintf("Mkdir(%d, %.300q)", dir, path), f.Mkdir(dir, path), api.OK)
	n, _ := f.Walk(dir, path, false)
	return n
}

func symlink(t *testing.T, f *names.FS, dir int, text, path string) int {
	t.Helper()
	does(t, fmt.Sprintf("Symlink(%d, %.300q, %.300q)", dir, text, path), f.Symlink(dir, text, path), api.OK)
	n, _ := f.Walk(dir, path, false)
	return n
}

func write(t *testing.T, f *names.FS, node, at int, data string) {
	t.Helper()
	if n, e := f.Write(node, at, data); n != len(data) || e != api.OK {
		t.Fatalf("Write(%d, %d, %.80q): %d, %d", node, at, data, n, int(e))
	}
}

func has(t *testing.T, f *names.FS, node int, want string) {
	t.Helper()
	if data, e := f.Read(node, 0, most); data != want || e != api.OK {
		t.Fatalf("Read(%d, 0, ..): %q, %d; want %q", node, data, int(e), want)
	}
}

func stat(t *testing.T, f *names.FS, node, kind, size, links int) {
	t.Helper()
	want := names.Info{Kind: kind, Size: size, Links: links}
	if x, e := f.Stat(node); x != want || e != api.OK {
		t.Fatalf("Stat(%d): %v, %d; want %v", node, x, int(e), want)
	}
}

func list(t *testing.T, f *names.FS, node int, want ...string) {
	t.Helper()
	l, e := f.List(node)
	if e != api.OK || fmt.Sprintf("%q", l) != fmt.Sprintf("%q", want) {
		t.Fatalf("List(%d): %q, %d; want %q", node, l, int(e), want)
	}
}

func free(t *testing.T, f *names.FS, nodes, blocks int) {
	t.Helper()
	if n, b := f.Free(); n != nodes || b != blocks {
		t.Fatalf("Free: %d, %d; want %d, %d", n, b, nodes, blocks)
	}
}

func prints(t *testing.T, f *names.FS, want string) {
	t.Helper()
	if now := f.Print(); now != want {
		t.Fatalf("Print: %q; want %q", now, want)
	}
}

// none holds every call of a number that no node has.
func none(t *testing.T, f *names.FS, node int, wrong api.Errno) {
	t.Helper()
	text, e := f.Readlink(node)
	does(t, "Readlink", e, wrong)
	l, e := f.List(node)
	does(t, "List", e, wrong)
	x, e := f.Stat(node)
	does(t, "Stat", e, wrong)
	if text != "" || len(l) != 0 || x != (names.Info{}) {
		t.Fatalf("%d: %q, %q, %v", node, text, l, x)
	}
	for _, at := range []int{least, -1, 0, 1, top, top + 1, most} {
		data, e := f.Read(node, at, 1)
		does(t, "Read", e, wrong)
		n, e := f.Write(node, at, "a")
		does(t, "Write", e, wrong)
		if data != "" || n != 0 {
			t.Fatalf("%d: %q, %d", node, data, n)
		}
		does(t, "Cut", f.Cut(node, at), wrong)
	}
	does(t, "Hold", f.Hold(node), wrong)
	does(t, "Loose", f.Loose(node), wrong)
}

// noDir holds every call that takes a directory, of one that is none.
func noDir(t *testing.T, f *names.FS, dir int, wrong api.Errno) {
	t.Helper()
	long := strings.Repeat("n", 257)
	for _, path := range []string{"", "/", ".", "/g", "g", "/new", "new", "/no/new", "a/b", long} {
		both(t, f, dir, path, 0, wrong)
		n, e := f.Make(dir, path)
		does(t, "Make", e, wrong)
		if n != 0 {
			t.Fatalf("Make(%d, %.300q): %d", dir, path, n)
		}
		does(t, "Mkdir", f.Mkdir(dir, path), wrong)
		does(t, "Unlink", f.Unlink(dir, path), wrong)
		does(t, "Rmdir", f.Rmdir(dir, path), wrong)
		for _, other := range []string{"", "/", "x", "/g", "/new", long} {
			does(t, "Symlink", f.Symlink(dir, other, path), wrong)
			does(t, "Link", f.Link(dir, path, other), wrong)
			does(t, "Rename", f.Rename(dir, path, other), wrong)
		}
	}
}

// users is how many users a node has: as many as can be taken away of a copy.
func users(f *names.FS, node int) int {
	c := f.Copy()
	n := 0
	for n < 100 && c.Loose(node) == api.OK {
		n++
	}
	return n
}

// shown is all that a tree that may have so many nodes tells.
func shown(f *names.FS, nodes int) string {
	var out strings.Builder
	for i := 0; i <= nodes+1; i++ {
		x, e := f.Stat(i)
		fmt.Fprintf(&out, "%d: %d, %v, %d users", i, int(e), x, users(f, i))
		switch x.Kind {
		case inodes.File:
			data, e := f.Read(i, 0, most)
			fmt.Fprintf(&out, ", %q, %d", data, int(e))
		case inodes.Link:
			text, e := f.Readlink(i)
			fmt.Fprintf(&out, ", says %q, %d", text, int(e))
		case inodes.Dir:
			up, e := f.Walk(i, "..", true)
			fmt.Fprintf(&out, ", in %d, %d", up, int(e))
			l, _ := f.List(i)
			for _, name := range l {
				n, e := f.Walk(i, name, false)
				fmt.Fprintf(&out, ", %q %d, %d", name, n, int(e))
			}
		}
		out.WriteString("\n")
	}
	n, b := f.Free()
	fmt.Fprintf(&out, "free %d, %d\n", n, b)
	return out.String() + f.Print()
}

// refused holds calls that answer an error each, and change nothing.
func refused(t *testing.T, f *names.FS, wrong api.Errno, name string, calls ...func() api.Errno) {
	t.Helper()
	was := shown(f, 64)
	for i, call := range calls {
		does(t, fmt.Sprintf("%s, call %d", name, i), call(), wrong)
		if now := shown(f, 64); now != was {
			t.Fatalf("%s, call %d: %s; want %s", name, i, now, was)
		}
	}
}

// maker is the error of a Make.
func maker(f *names.FS, dir int, path string) api.Errno {
	_, e := f.Make(dir, path)
	return e
}

// makes are the calls that make a name at a path; /g is to be there, and no directory.
func makes(f *names.FS, dir int, path string) []func() api.Errno {
	return []func() api.Errno{
		func() api.Errno { return maker(f, dir, path) },
		func() api.Errno { return f.Mkdir(dir, path) },
		func() api.Errno { return f.Symlink(dir, "said", path) },
		func() api.Errno { return f.Link(dir, "/g", path) },
	}
}

// places are the calls that ask for the place of a path; /g is to be there, and no directory.
func places(f *names.FS, dir int, path string) []func() api.Errno {
	return append(makes(f, dir, path),
		func() api.Errno { return f.Unlink(dir, path) },
		func() api.Errno { return f.Rmdir(dir, path) },
		func() api.Errno { return f.Rename(dir, path, "/g") },
		func() api.Errno { return f.Rename(dir, "/g", path) })
}

// some is a tree with room for 40 nodes and blocks:
//
//	/a/ 2, /a/b/ 3, /a/b/f 4 "hi", /g 5 of no bytes, /e/ 6 without names,
//	/l -> a/b 7, /x -> x 8, /up -> ../a 9, /no -> nowhere 10, /abs -> /a/b 11, /a/back -> .. 12, /to -> g 13,
//	/a/b/near -> f 14, /ll -> l/near 15
func some(t *testing.T) *names.FS {
	t.Helper()
	f := made(t, 40, 40)
	mkdir(t, f, 1, "a")
	mkdir(t, f, 1, "a/b/")
	write(t, f, file(t, f, 1, "a/b/f"), 0, "hi")
	file(t, f, 1, "/g")
	mkdir(t, f, 1, "e")
	for _, l := range []struct{ text, path string }{{"a/b", "l"}, {"x", "x"}, {"../a", "up"}, {"nowhere", "no"}, {"/a/b", "abs"}, {"..", "a/back"}, {"g", "to"}, {"f", "a/b/near"}, {"l/near", "ll"}} {
		symlink(t, f, 1, l.text, l.path)
	}
	free(t, f, 25, 30)
	return f
}
