package names_test

import (
	"slices"
	"strings"
	"testing"

	"conch/api"
	"conch/inodes"
	"conch/names"
)

func TestExamples(t *testing.T) {
	f := made(t, 5, 5)
	mkdir(t, f, 1, "a")
	n := file(t, f, 1, "a/f")
	both(t, f, 1, "/a/../a/./f", n, api.OK)
	does(t, "Rename", f.Rename(1, "a", "a/b"), api.ErrCross)
	does(t, "Rmdir", f.Rmdir(1, "a"), api.ErrFull)
}

// P13.1

func TestNew(t *testing.T) {
	for _, nodes := range []int{1, 2, 1023, 1024} {
		for _, blocks := range []int{1, 2, 4095, 4096} {
			f := made(t, nodes, blocks)
			if r := f.Root(); r != 1 {
				t.Fatalf("Root: %d", r)
			}
			free(t, f, nodes-1, blocks)
			stat(t, f, 1, inodes.Dir, 0, 1)
			list(t, f, 1)
			prints(t, f, "")
			for _, i := range []int{least, -1, 0, 2, nodes, nodes + 1, most} {
				if i != 1 {
					none(t, f, i, api.ErrNone)
				}
			}
		}
	}
}

func TestNewRefused(t *testing.T) {
	wrong := []int{least, -1, 0, 1025, 4097, most, 1<<32 + 1}
	for _, nodes := range append(wrong, 1, 1024) {
		for _, blocks := range append(wrong, 1, 1025, 4096) {
			_, want := inodes.New(nodes, blocks)
			f, e := names.New(nodes, blocks)
			if e != want || (f == nil) != (want != api.OK) {
				t.Errorf("New(%d, %d): %v, %d; want %d", nodes, blocks, f, int(e), int(want))
			}
		}
	}
}

// A nil tree, and one that New didn't make: whatever else is wrong.
func TestNil(t *testing.T) {
	for _, f := range []*names.FS{nil, {}} {
		if r := f.Root(); r != 0 {
			t.Errorf("Root: %d", r)
		}
		for _, i := range []int{least, -1, 0, 1, 2, most} {
			none(t, f, i, api.ErrNil)
			noDir(t, f, i, api.ErrNil)
		}
		free(t, f, 0, 0)
		prints(t, f, "")
		if c := f.Copy(); c != nil {
			t.Errorf("Copy: %v", c)
		}
	}
}

// The directory is what is wrong first, whatever else is: no node, a file, a link (to a directory, too), a directory that is no more.
func TestNoDirectory(t *testing.T) {
	f := some(t)
	gone := node(t, f, "e")
	does(t, "Rmdir", f.Rmdir(1, "e"), api.OK)
	was := shown(f, 40)
	for _, dir := range []int{least, -2, -1, 0, gone, node(t, f, "g"), node(t, f, "a/b/f"), node(t, f, "l"), node(t, f, "x"), 30, 40, 41, 1 << 32, 1<<32 + 1, most} {
		noDir(t, f, dir, api.ErrNoDir)
	}
	if now := shown(f, 40); now != was {
		t.Errorf("%s; want %s", now, was)
	}
}

// P13.5

func TestReadlink(t *testing.T) {
	f := some(t)
	for path, want := range map[string]string{"l": "a/b", "x": "x", "up": "../a", "no": "nowhere", "a/back": ".."} {
		if text, e := f.Readlink(node(t, f, path)); text != want || e != api.OK {
			t.Errorf("%s: %q, %d; want %q", path, text, int(e), want)
		}
	}
	for _, path := range []string{"/", "a", "g", "a/b/f"} {
		if text, e := f.Readlink(node(t, f, path)); text != "" || e != api.ErrArg {
			t.Errorf("%s: %q, %d", path, text, int(e))
		}
	}
}

func TestList(t *testing.T) {
	f := some(t)
	list(t, f, 1, "a", "abs", "e", "g", "l", "ll", "no", "to", "up", "x")
	list(t, f, node(t, f, "a"), "b", "back")
	list(t, f, node(t, f, "a/b"), "f", "near")
	list(t, f, node(t, f, "e"))
	for _, path := range []string{"g", "a/b/f", "l", "x"} {
		if l, e := f.List(node(t, f, path)); len(l) != 0 || e != api.ErrNoDir {
			t.Errorf("%s: %q, %d", path, l, int(e))
		}
	}
}

// Names rise byte by byte, in whatever order they came, and whatever bytes they are.
func TestListRising(t *testing.T) {
	want := []string{"\x00", "\x00\x00", "\n", " ", " -> ", "*", "-", "...", "..a", ".a", "0", "10", "9", "A", "B", "Z", "\\", "a", "a ", "a.", "aa", "ab", "b", "~", "\x7f", "\x80", "\xc3\xa4", "\xff", "\xff\xff"}
	slices.Sort(want)
	for turn := range len(want) {
		f := made(t, 40, 1)
		for i := range want {
			// Steps of 2 go through all of them, for they are an odd number.
			file(t, f, 1, want[(turn+2*i)%len(want)])
		}
		list(t, f, 1, want...)
		for _, name := range want {
			both(t, f, 1, "/"+name, node(t, f, name), api.OK)
		}
	}
}

func TestStat(t *testing.T) {
	f := some(t)
	stat(t, f, 1, inodes.Dir, 10, 1)
	stat(t, f, node(t, f, "a"), inodes.Dir, 2, 1)
	stat(t, f, node(t, f, "e"), inodes.Dir, 0, 1)
	stat(t, f, node(t, f, "a/b/f"), inodes.File, 2, 1)
	stat(t, f, node(t, f, "g"), inodes.File, 0, 1)
	stat(t, f, node(t, f, "up"), inodes.Link, 4, 1)
	does(t, "Link", f.Link(1, "g", "e/g"), api.OK)
	does(t, "Link", f.Link(1, "up", "e/up"), api.OK)
	write(t, f, node(t, f, "g"), 100, "x")
	stat(t, f, node(t, f, "e/g"), inodes.File, 101, 2)
	stat(t, f, node(t, f, "e/up"), inodes.Link, 4, 2)
	stat(t, f, node(t, f, "e"), inodes.Dir, 2, 1)
}

func TestReadWriteCut(t *testing.T) {
	f := some(t)
	g := node(t, f, "g")
	write(t, f, g, 2, "cde")
	has(t, f, g, "\x00\x00cde")
	if data, e := f.Read(g, 3, 1); data != "d" || e != api.OK {
		t.Error(data, int(e))
	}
	does(t, "Cut", f.Cut(g, 3), api.OK)
	has(t, f, g, "\x00\x00c")
	has(t, f, node(t, f, "a/b/f"), "hi")
	for _, c := range []struct {
		e, want api.Errno
	}{{f.Cut(g, -1), api.ErrArg}, {f.Cut(g, top+1), api.ErrBig}, {f.Cut(g, top), api.OK}} {
		does(t, "Cut", c.e, c.want)
	}
	if n, e := f.Write(g, top-1, "ab"); n != 1 || e != api.OK {
		t.Error(n, int(e))
	}
	if n, e := f.Write(g, top, "a"); n != 0 || e != api.ErrBig {
		t.Error(n, int(e))
	}
	if n, e := f.Write(g, -1, "a"); n != 0 || e != api.ErrArg {
		t.Error(n, int(e))
	}
	if data, e := f.Read(g, 0, -1); data != "" || e != api.ErrArg {
		t.Error(data, int(e))
	}
}

func TestWriteNoSpace(t *testing.T) {
	f := made(t, 3, 2)
	n, m := file(t, f, 1, "f"), file(t, f, 1, "g")
	if n, e := f.Write(n, 0, strings.Repeat("z", 200)); n != 128 || e != api.OK {
		t.Fatal(n, int(e))
	}
	free(t, f, 0, 0)
	if n, e := f.Write(m, 0, "z"); n != 0 || e != api.ErrSpace {
		t.Fatal(n, int(e))
	}
	does(t, "Unlink", f.Unlink(1, "f"), api.OK)
	free(t, f, 1, 2)
	write(t, f, m, 0, "z")
}

// Only files are read, written and cut; of directories and links the kind is what is wrong first.
func TestReadWriteCutRefused(t *testing.T) {
	f := some(t)
	for path, wrong := range map[string]api.Errno{"/": api.ErrDir, "a": api.ErrDir, "e": api.ErrDir, "l": api.ErrArg, "x": api.ErrArg, "to": api.ErrArg} {
		n := node(t, f, path)
		for _, at := range []int{least, -1, 0, 1, top, top + 1, most} {
			refused(t, f, wrong, path,
				func() api.Errno { _, e := f.Read(n, at, 1); return e },
				func() api.Errno { _, e := f.Read(n, 0, at); return e },
				func() api.Errno { _, e := f.Write(n, at, "a"); return e },
				func() api.Errno { _, e := f.Write(n, at, ""); return e },
				func() api.Errno { return f.Cut(n, at) })
		}
	}
}

func TestNone(t *testing.T) {
	f := some(t)
	e := node(t, f, "e")
	does(t, "Rmdir", f.Rmdir(1, "e"), api.OK)
	was := shown(f, 40)
	for _, i := range []int{least, -1, 0, e, 16, 40, 41, 1<<32 + 1, most} {
		none(t, f, i, api.ErrNone)
	}
	if now := shown(f, 40); now != was {
		t.Errorf("%s; want %s", now, was)
	}
}

// A file that is used is there, with its bytes, though its name is gone; its blocks are free behind the last Loose.
func TestHoldFile(t *testing.T) {
	f := made(t, 3, 3)
	n := file(t, f, 1, "f")
	write(t, f, n, 0, "kept")
	does(t, "Loose", f.Loose(n), api.ErrNone)
	does(t, "Hold", f.Hold(n), api.OK)
	does(t, "Hold", f.Hold(n), api.OK)
	does(t, "Unlink", f.Unlink(1, "f"), api.OK)
	both(t, f, 1, "f", 0, api.ErrNone)
	stat(t, f, n, inodes.File, 4, 0)
	has(t, f, n, "kept")
	prints(t, f, "")
	if m := file(t, f, 1, "f"); m == n {
		t.Fatal(m)
	}
	free(t, f, 0, 2)
	does(t, "Loose", f.Loose(n), api.OK)
	has(t, f, n, "kept")
	does(t, "Loose", f.Loose(n), api.OK)
	none(t, f, n, api.ErrNone)
	free(t, f, 1, 3)
}

// A directory that is used is there, though its name is gone: it has no names, and gets none; `..` leads where it stood.
func TestHoldDirectory(t *testing.T) {
	f := some(t)
	d := mkdir(t, f, 1, "a/d")
	does(t, "Hold", f.Hold(d), api.OK)
	does(t, "Rmdir", f.Rmdir(1, "a/d"), api.OK)
	both(t, f, 1, "a/d", 0, api.ErrNone)
	stat(t, f, d, inodes.Dir, 0, 0)
	list(t, f, d)
	both(t, f, d, ".", d, api.OK)
	both(t, f, d, "..", node(t, f, "a"), api.OK)
	both(t, f, d, "../b/f", node(t, f, "a/b/f"), api.OK)
	both(t, f, d, "/g", node(t, f, "g"), api.OK)
	both(t, f, d, "n", 0, api.ErrNone)
	refused(t, f, api.ErrNone, "no name", makes(f, d, "n")...)
	refused(t, f, api.ErrNone, "no name", makes(f, d, "./n/")...)
	refused(t, f, api.ErrNone, "no name",
		func() api.Errno { return f.Rename(d, "/g", "n") },
		func() api.Errno { return f.Rename(d, "/a", "n") },
		func() api.Errno { return f.Rename(d, "n", "n") },
		func() api.Errno { return f.Unlink(d, "n") },
		func() api.Errno { return f.Rmdir(d, "n") })
	m := file(t, f, d, "../made")
	both(t, f, 1, "a/made", m, api.OK)
	does(t, "Loose", f.Loose(d), api.OK)
	none(t, f, d, api.ErrNone)
	noDir(t, f, d, api.ErrNoDir)
	free(t, f, 24, 30)
	if n := mkdir(t, f, 1, "again"); n != d {
		t.Fatalf("%d; want %d", n, d)
	}
	both(t, f, d, "..", 1, api.OK)
	list(t, f, d)
}

// A directory that is used may lose its name by a Rename over it, too.
func TestHoldDirectoryRenamedOver(t *testing.T) {
	f := some(t)
	e, a := node(t, f, "e"), node(t, f, "a")
	does(t, "Hold", f.Hold(e), api.OK)
	does(t, "Rename", f.Rename(1, "a", "e"), api.OK)
	both(t, f, 1, "e", a, api.OK)
	both(t, f, e, "..", 1, api.OK)
	refused(t, f, api.ErrNone, "no name", makes(f, e, "n")...)
	does(t, "Loose", f.Loose(e), api.OK)
	none(t, f, e, api.ErrNone)
}

// The root has a name that nobody takes away.
func TestHoldRoot(t *testing.T) {
	f := made(t, 2, 1)
	does(t, "Loose", f.Loose(1), api.ErrNone)
	does(t, "Hold", f.Hold(1), api.OK)
	does(t, "Loose", f.Loose(1), api.OK)
	does(t, "Loose", f.Loose(1), api.ErrNone)
	stat(t, f, 1, inodes.Dir, 0, 1)
	file(t, f, 1, "f")
	prints(t, f, "/f 0\n\n")
}

// A list is the caller's, and names are the tree's (R2).
func TestMemory(t *testing.T) {
	f := some(t)
	was := shown(f, 40)
	l, _ := f.List(1)
	for i := range l {
		l[i] = "changed"
	}
	l = append(l[:0], "other")
	if now := shown(f, 40); now != was {
		t.Errorf("%s; want %s", now, was)
	}
	path := []byte("name")
	n := file(t, f, 1, string(path))
	copy(path, "gone")
	both(t, f, 1, "name", n, api.OK)
}

// P13.6

func TestPrint(t *testing.T) {
	f := some(t)
	prints(t, f, "/a/\n/a/b/\n/a/b/f 2\nhi\n/a/b/near -> f\n/a/back -> ..\n/abs -> /a/b\n/e/\n/g 0\n\n/l -> a/b\n/ll -> l/near\n/no -> nowhere\n/to -> g\n/up -> ../a\n/x -> x\n")
}

func TestPrintKinds(t *testing.T) {
	f := made(t, 10, 70)
	prints(t, f, "")
	n := file(t, f, 1, "f")
	prints(t, f, "/f 0\n\n")
	write(t, f, n, 0, "a\nb\n\x00\xff")
	prints(t, f, "/f 6\na\nb\n\x00\xff\n")
	does(t, "Unlink", f.Unlink(1, "f"), api.OK)
	mkdir(t, f, 1, "d")
	prints(t, f, "/d/\n")
	symlink(t, f, 1, "\n -> d", "d/ l")
	prints(t, f, "/d/\n/d/ l -> \n -> d\n")
	n = file(t, f, 1, "d-")
	does(t, "Cut", f.Cut(n, top), api.OK)
	does(t, "Link", f.Link(1, "d-", "d/x"), api.OK)
	zeros := strings.Repeat("\x00", top)
	// A directory's names come behind it, though another name is between it and its paths.
	prints(t, f, "/d/\n/d/ l -> \n -> d\n/d/x 4096\n"+zeros+"\n/d- 4096\n"+zeros+"\n")
}

// What cannot be reached is not printed.
func TestPrintReached(t *testing.T) {
	f := some(t)
	was := f.Print()
	d, n := mkdir(t, f, 1, "d"), file(t, f, 1, "n")
	does(t, "Hold", f.Hold(d), api.OK)
	does(t, "Hold", f.Hold(n), api.OK)
	does(t, "Rmdir", f.Rmdir(1, "d"), api.OK)
	does(t, "Unlink", f.Unlink(1, "n"), api.OK)
	prints(t, f, was)
}
