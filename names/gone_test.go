package names_test

import (
	"slices"
	"testing"

	"conch/api"
	"conch/inodes"
	"conch/names"
)

// P13.1 and P13.7, of a directory without a name whose parent is no more: there is nothing that `..` leads to.

// orphan is a tree of nine nodes with /g, and the numbers of /a, which is no more, and of /a/b, which has a user and no name.
func orphan(t *testing.T) (f *names.FS, a, b int) {
	t.Helper()
	f = made(t, 9, 9)
	file(t, f, 1, "g")
	a = mkdir(t, f, 1, "a")
	b = mkdir(t, f, 1, "a/b")
	does(t, "Hold", f.Hold(b), api.OK)
	does(t, "Rmdir", f.Rmdir(1, "a/b"), api.OK)
	both(t, f, b, "..", a, api.OK)
	does(t, "Rmdir", f.Rmdir(1, "a"), api.OK)
	none(t, f, a, api.ErrNone)
	return f, a, b
}

// noParent holds all that may be asked of a directory whose parent is no more.
func noParent(t *testing.T, f *names.FS, dir int) {
	t.Helper()
	for _, path := range []string{"..", "./..", "../", "../.", "../..", "../g", "../../g"} {
		both(t, f, dir, path, 0, api.ErrNoDir)
		refused(t, f, api.ErrNoDir, path, func() api.Errno { return f.Link(dir, path, "/new") })
	}
	refused(t, f, api.ErrNoDir, "no parent", places(f, dir, "../g")...)
	refused(t, f, api.ErrNoDir, "no parent", places(f, dir, "../../g")...)
	refused(t, f, api.ErrNone, "no name", makes(f, dir, "n")...)
	both(t, f, dir, ".", dir, api.OK)
	both(t, f, dir, "/g", node(t, f, "g"), api.OK)
	both(t, f, dir, "/..", 1, api.OK)
}

func TestParentGone(t *testing.T) {
	f, a, b := orphan(t)
	noParent(t, f, b)
	noParent(t, f.Copy(), b)
	does(t, "Loose", f.Loose(b), api.OK)
	noDir(t, f, b, api.ErrNoDir)
	// Those that come to have their numbers have parents of their own.
	if n, m := mkdir(t, f, 1, "n"), mkdir(t, f, 1, "n/m"); n != a || m != b {
		t.Fatalf("%d, %d; want %d, %d", n, m, a, b)
	}
	both(t, f, b, "..", a, api.OK)
	both(t, f, a, "..", 1, api.OK)
}

// What has the parent's number by then is not the parent.
func TestParentsNumber(t *testing.T) {
	for name, do := range map[string]func(f *names.FS) api.Errno{
		"file":      func(f *names.FS) api.Errno { return maker(f, 1, "n") },
		"link":      func(f *names.FS) api.Errno { return f.Symlink(1, "g", "n") },
		"directory": func(f *names.FS) api.Errno { return f.Mkdir(1, "n") },
	} {
		f, a, b := orphan(t)
		does(t, name, do(f), api.OK)
		if n := node(t, f, "n"); n != a {
			t.Fatalf("%s: %d; want %d", name, n, a)
		}
		noParent(t, f, b)
		noParent(t, f.Copy(), b)
		holds(t, f, 9)
		if name == "directory" {
			file(t, f, a, "../made")
			both(t, f, 1, "made", node(t, f, "made"), api.OK)
		}
	}
}

// The parent may be no more by a Loose, or by a Rename over it; until then `..` leads to it.
func TestParentGoneLater(t *testing.T) {
	f := made(t, 9, 9)
	file(t, f, 1, "g")
	a, b, c := mkdir(t, f, 1, "a"), mkdir(t, f, 1, "a/b"), mkdir(t, f, 1, "a/b/c")
	for i, path := range []string{"a/b/c", "a/b", "a"} {
		does(t, "Hold", f.Hold([]int{c, b, a}[i]), api.OK)
		does(t, "Rmdir", f.Rmdir(1, path), api.OK)
	}
	both(t, f, c, "../../..", 1, api.OK)
	before := f.Copy()
	does(t, "Loose", f.Loose(a), api.OK)
	noParent(t, f, b)
	both(t, f, c, "..", b, api.OK)
	both(t, f, c, "../..", 0, api.ErrNoDir)
	does(t, "Loose", f.Loose(b), api.OK)
	noParent(t, f, c)
	both(t, before, c, "../../..", 1, api.OK)

	f = made(t, 9, 9)
	file(t, f, 1, "g")
	a, b = mkdir(t, f, 1, "a"), mkdir(t, f, 1, "a/b")
	d := mkdir(t, f, 1, "d")
	does(t, "Hold", f.Hold(b), api.OK)
	does(t, "Rmdir", f.Rmdir(1, "a/b"), api.OK)
	does(t, "Rename", f.Rename(1, "d", "a"), api.OK)
	none(t, f, a, api.ErrNone)
	both(t, f, 1, "a", d, api.OK)
	noParent(t, f, b)
}

// A parent that was taken elsewhere is the parent there.
func TestParentMoved(t *testing.T) {
	f := some(t)
	a, d := node(t, f, "a"), mkdir(t, f, 1, "a/d")
	does(t, "Hold", f.Hold(d), api.OK)
	does(t, "Rmdir", f.Rmdir(1, "a/d"), api.OK)
	does(t, "Rename", f.Rename(1, "a", "e/a"), api.OK)
	both(t, f, d, "..", a, api.OK)
	both(t, f, d, "../..", node(t, f, "e"), api.OK)
}

// A Link of what is no more would make a name that leads nowhere, and later to what is above it.
func TestLinkOfGone(t *testing.T) {
	f, _, b := orphan(t)
	does(t, "Link", f.Link(b, "..", "/x"), api.ErrNoDir)
	list(t, f, 1, "g")
	holds(t, f, 9)
	mkdir(t, f, 1, "d")
	does(t, "Link", f.Link(b, "..", "/x"), api.ErrNoDir)
	mkdir(t, f, 1, "q")
	does(t, "Rename", f.Rename(1, "x", "q/x"), api.ErrNone)
	does(t, "Rename", f.Rename(1, "d", "z"), api.OK)
	does(t, "Rename", f.Rename(1, "q", "z/q"), api.OK)
	holds(t, f, 9)
	prints(t, f, "/g 0\n\n/z/\n/z/q/\n")
}

// Each row of these calls, of a tree in which /a has a user, and so has what was /a/b.
func TestRowsOfGone(t *testing.T) {
	kind := func(name string) int { return slices.Index(calls, name) }
	first := []call{
		{kind: kind("Mkdir"), dir: 1, path: "a"},
		{kind: kind("Mkdir"), dir: 1, path: "a/b"},
		{kind: kind("Hold"), dir: 2},
		{kind: kind("Hold"), dir: 3},
		{kind: kind("Rmdir"), dir: 1, path: "a/b"},
	}
	all := []call{
		{kind: kind("Rmdir"), dir: 1, path: "a"},
		{kind: kind("Loose"), dir: 2},
		{kind: kind("Link"), dir: 3, path: "..", other: "/x"},
		{kind: kind("Link"), dir: 3, path: "../x", other: "/a"},
		{kind: kind("Mkdir"), dir: 1, path: "a"},
		{kind: kind("Mkdir"), dir: 3, path: "../x"},
		{kind: kind("Make"), dir: 1, path: "x"},
		{kind: kind("Rename"), dir: 1, path: "x", other: "a/x"},
		{kind: kind("Rename"), dir: 1, path: "x", other: "a"},
	}
	p := newPair(t, 5, 1)
	for _, c := range first {
		p.do(t, "first", c)
	}
	stat(t, p.f, 3, inodes.Dir, 0, 0)
	p.rows(t, "first", all, 5)
}
