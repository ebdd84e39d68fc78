package names_test

import (
	"strings"
	"testing"

	"conch/api"
	"conch/inodes"
)

// P13.2 and P13.3, and the place

// What is wrong with a path is told by each call that asks for its place, and nothing is changed.
func TestPlaceRefused(t *testing.T) {
	f := some(t)
	name := strings.Repeat("n", 32)
	mkdir(t, f, 1, name)
	for _, c := range []struct {
		path string
		e    api.Errno
	}{
		{"", api.ErrNone},
		{"/", api.ErrArg},
		{"///", api.ErrArg},
		{strings.Repeat("/", 257), api.ErrArg},
		{".", api.ErrArg},
		{"..", api.ErrArg},
		{"./", api.ErrArg},
		{"..//", api.ErrArg},
		{"/.", api.ErrArg},
		{"/..", api.ErrArg},
		{"a/.", api.ErrArg},
		{"a/..", api.ErrArg},
		{"a/../", api.ErrArg},
		{"none/.", api.ErrArg},
		{"g/..", api.ErrArg},
		{"x/.", api.ErrArg},
		{name + "n/.", api.ErrArg},
		{strings.Repeat("/", 257) + ".", api.ErrArg},
		{strings.Repeat("n", 257) + "/..", api.ErrArg},
		{name + "n", api.ErrBig},
		{name + "n/", api.ErrBig},
		{"/" + name + "n", api.ErrBig},
		{"a/" + name + "n", api.ErrBig},
		{"none/" + name + "n", api.ErrBig},
		{"g/" + name + "n", api.ErrBig},
		{"x/" + name + "n", api.ErrBig},
		{strings.Repeat("n", 256), api.ErrBig},
		{strings.Repeat("n", 257), api.ErrBig},
		{strings.Repeat("n", 10000), api.ErrBig},
		{strings.Repeat("/", 256) + "n", api.ErrBig},
		{"n" + strings.Repeat("/", 256), api.ErrBig},
		{"none/n" + strings.Repeat("/", 256), api.ErrBig},
		{"none/n", api.ErrNone},
		{"a/none/n", api.ErrNone},
		{"no/n", api.ErrNone},
		{"l/no/n", api.ErrNone},
		{name + "n/n", api.ErrBig},
		{"a/" + name + "n/n", api.ErrBig},
		{"g/n", api.ErrNoDir},
		{"g//n/", api.ErrNoDir},
		{"to/n", api.ErrNoDir},
		{"ll/n", api.ErrNoDir},
		{"a/b/f/n", api.ErrNoDir},
		{"g/../n", api.ErrNoDir},
		{"g/./n", api.ErrNoDir},
		{"x/n", api.ErrLoop},
		{"l/../../x/n", api.ErrLoop},
		{strings.Repeat("a/back/", 9) + "n", api.ErrLoop},
	} {
		refused(t, f, c.e, c.path, places(f, 1, c.path)...)
	}
}

func TestPlaces(t *testing.T) {
	long := strings.Repeat("n", 32)
	for _, c := range []struct{ from, path, dir, name string }{
		{"/", "n", "/", "n"},
		{"a", "n", "a", "n"},
		{"a", "/n", "/", "n"},
		{"a", "//n", "/", "n"},
		{"a", "n/", "a", "n"},
		{"a", "n///", "a", "n"},
		{"a/b", "///n//", "/", "n"},
		{"/", "a/n", "a", "n"},
		{"/", "a//n", "a", "n"},
		{"/", "./n", "/", "n"},
		{"a/b", "../n", "a", "n"},
		{"/", "../n", "/", "n"},
		{"/", "a/./b/../n", "a", "n"},
		{"/", "l/n", "a/b", "n"},
		{"a", "/l/../n", "a", "n"},
		{"/", "up/n/", "a", "n"},
		{"/", "abs//n", "a/b", "n"},
		{"a/b", "../back/n", "/", "n"},
		{"/", strings.Repeat("a/back/", 8) + "n", "/", "n"},
		{"/", long, "/", long},
		{"/", "e/" + long + "/", "e", long},
		{"a", strings.Repeat("/", 224) + long, "/", long},
		{"a", long + strings.Repeat("/", 224), "a", long},
		{"/", "...", "/", "..."},
		{"/", ".n", "/", ".n"},
		{"/", "..n", "/", "..n"},
		{"/", "e/ ", "e", " "},
		{"/", "e/\x00\xff\n", "e", "\x00\xff\n"},
	} {
		f := some(t)
		dir := node(t, f, c.dir)
		was, _ := f.Stat(dir)
		for i, call := range makes(f, node(t, f, c.from), c.path) {
			does(t, c.path, call(), api.OK)
			n, e := f.Walk(dir, c.name, false)
			does(t, c.path, e, api.OK)
			if l, _ := f.List(dir); len(l) != was.Size+1 {
				t.Fatalf("%s: %q", c.path, l)
			}
			x, _ := f.Stat(n)
			want := []int{inodes.File, inodes.Dir, inodes.Link, inodes.File}[i]
			if x.Kind != want {
				t.Fatalf("%s: %v", c.path, x)
			}
			if want == inodes.Dir {
				both(t, f, n, "..", dir, api.OK)
				does(t, c.path, f.Rmdir(node(t, f, c.from), c.path), api.OK)
			} else {
				does(t, c.path, f.Unlink(node(t, f, c.from), c.path), api.OK)
			}
			walk(t, f, dir, c.name, false, 0, api.ErrNone)
		}
	}
}

func TestMake(t *testing.T) {
	f := made(t, 5, 5)
	if n := file(t, f, 1, "f"); n != 2 {
		t.Fatal(n)
	}
	stat(t, f, 2, inodes.File, 0, 1)
	has(t, f, 2, "")
	free(t, f, 3, 5)
	if n := mkdir(t, f, 1, "d"); n != 3 {
		t.Fatal(n)
	}
	stat(t, f, 3, inodes.Dir, 0, 1)
	list(t, f, 3)
	free(t, f, 2, 5)
	if n := symlink(t, f, 3, "../f", "l"); n != 4 {
		t.Fatal(n)
	}
	stat(t, f, 4, inodes.Link, 4, 1)
	free(t, f, 1, 4)
	if n := file(t, f, 3, "f"); n != 5 {
		t.Fatal(n)
	}
	prints(t, f, "/d/\n/d/f 0\n\n/d/l -> ../f\n/f 0\n\n")
	// The least number of none is the next one's.
	does(t, "Unlink", f.Unlink(1, "f"), api.OK)
	does(t, "Unlink", f.Unlink(3, "l"), api.OK)
	if n := symlink(t, f, 3, "x", "f2"); n != 2 {
		t.Fatal(n)
	}
	if n := file(t, f, 3, "f3"); n != 4 {
		t.Fatal(n)
	}
	has(t, f, 4, "")
	free(t, f, 0, 4)
}

// A name that is there is there, whatever it leads to; a link is not followed.
func TestMakeThere(t *testing.T) {
	f := some(t)
	for _, path := range []string{"a", "a/", "/a", "g", "g/", "l", "l/", "x", "x/", "no", "no/", "a/b/f", "l/f", "e//", "to"} {
		refused(t, f, api.ErrThere, path, makes(f, 1, path)...)
	}
	full := made(t, 2, 1)
	file(t, full, 1, "g")
	refused(t, full, api.ErrThere, "full", makes(full, 1, "g")...)
}

func TestMakeNoNodes(t *testing.T) {
	f := made(t, 3, 5)
	file(t, f, 1, "g")
	mkdir(t, f, 1, "d")
	for _, path := range []string{"n", "d/n", "/d/n/"} {
		refused(t, f, api.ErrNodes, path, makes(f, 1, path)[:3]...)
	}
	refused(t, f, api.ErrNodes, "long", func() api.Errno { return f.Symlink(1, strings.Repeat("s", 256), "n") })
	refused(t, f, api.ErrNone, "none", makes(f, 1, "none/n")...)
	// Another name of a node takes no node.
	does(t, "Link", f.Link(1, "g", "d/n"), api.OK)
	free(t, f, 0, 5)
	alone := made(t, 1, 1)
	refused(t, alone, api.ErrNodes, "alone", makes(alone, 1, "n")[:3]...)
}

// That a directory has no name any more is told ahead of there being no node.
func TestMakeNoNameAndNoNodes(t *testing.T) {
	f := made(t, 3, 1)
	file(t, f, 1, "g")
	d := mkdir(t, f, 1, "d")
	f.Hold(d)
	does(t, "Rmdir", f.Rmdir(1, "d"), api.OK)
	free(t, f, 0, 1)
	refused(t, f, api.ErrNone, "no name", makes(f, d, "n")...)
	refused(t, f, api.ErrThere, "up", makes(f, d, "../g")...)
}

func TestSymlink(t *testing.T) {
	f := made(t, 10, 20)
	for i, text := range []string{"a", "/", strings.Repeat("b", 64), strings.Repeat("c", 65), strings.Repeat("d", 255), strings.Repeat("e", 256), " -> \n\x00\xff"} {
		n := symlink(t, f, 1, text, string(rune('a'+i)))
		if said, e := f.Readlink(n); said != text || e != api.OK {
			t.Errorf("%q, %d; want %q", said, int(e), text)
		}
		stat(t, f, n, inodes.Link, len(text), 1)
	}
	free(t, f, 2, 20-1-1-1-2-4-4-1)
}

// The text is what is wrong first, but for the directory.
func TestSymlinkRefused(t *testing.T) {
	f := some(t)
	for _, path := range []string{"", "/", ".", "n", "a", "none/n", "g/n", "x/n", strings.Repeat("n", 33), strings.Repeat("n", 257)} {
		refused(t, f, api.ErrArg, path, func() api.Errno { return f.Symlink(1, "", path) })
		for _, n := range []int{257, 258, 4096, 4097, 10000} {
			refused(t, f, api.ErrBig, path, func() api.Errno { return f.Symlink(1, strings.Repeat("s", n), path) })
		}
	}
}

// Without room for all of its text no link is made: neither the node nor a block is gone.
func TestSymlinkNoSpace(t *testing.T) {
	for blocks := 1; blocks <= 4; blocks++ {
		for _, n := range []int{1, 63, 64, 65, 128, 129, 192, 193, 255, 256} {
			f := made(t, 3, blocks)
			text := strings.Repeat("s", n)
			if (n+63)/64 <= blocks {
				symlink(t, f, 1, text, "l")
				free(t, f, 1, blocks-(n+63)/64)
				continue
			}
			refused(t, f, api.ErrSpace, "no space", func() api.Errno { return f.Symlink(1, text, "l") })
			free(t, f, 2, blocks)
			if n := mkdir(t, f, 1, "l"); n != 2 {
				t.Fatal(n)
			}
		}
	}
	f := made(t, 4, 1)
	write(t, f, file(t, f, 1, "g"), 0, "all")
	refused(t, f, api.ErrSpace, "no space", func() api.Errno { return f.Symlink(1, "s", "l") })
	mkdir(t, f, 1, "d")
	file(t, f, 1, "d/f")
	refused(t, f, api.ErrNodes, "no node, and no space", func() api.Errno { return f.Symlink(1, "s", "l") })
}

func TestLink(t *testing.T) {
	f := some(t)
	g, to := node(t, f, "g"), node(t, f, "to")
	does(t, "Link", f.Link(1, "g", "e/h"), api.OK)
	both(t, f, 1, "e/h", g, api.OK)
	stat(t, f, g, inodes.File, 0, 2)
	write(t, f, g, 0, "one")
	has(t, f, node(t, f, "e/h"), "one")
	// A link is not followed; it has another name itself.
	does(t, "Link", f.Link(node(t, f, "e"), "../to", "t2"), api.OK)
	walk(t, f, 1, "e/t2", false, to, api.OK)
	stat(t, f, to, inodes.Link, 1, 2)
	stat(t, f, g, inodes.File, 3, 2)
	// Ahead of the last part one is.
	does(t, "Link", f.Link(1, "l/f", "up/f"), api.OK)
	both(t, f, 1, "a/f", node(t, f, "a/b/f"), api.OK)
	does(t, "Link", f.Link(1, "no", "no2"), api.OK)
	does(t, "Link", f.Link(1, "x", "x2/"), api.OK)
	free(t, f, 25, 29)
	// The last name that is taken away takes the node.
	does(t, "Unlink", f.Unlink(1, "g"), api.OK)
	both(t, f, 1, "e/h", g, api.OK)
	stat(t, f, g, inodes.File, 3, 1)
	does(t, "Unlink", f.Unlink(1, "e/h"), api.OK)
	none(t, f, g, api.ErrNone)
	free(t, f, 26, 30)
}

// What from leads to is asked ahead of where to is.
func TestLinkRefused(t *testing.T) {
	f := some(t)
	for from, wrong := range map[string]api.Errno{"": api.ErrNone, "none": api.ErrNone, "no/": api.ErrNone, "a/c": api.ErrNone, "g/": api.ErrNoDir, "g/x": api.ErrNoDir, "x/": api.ErrLoop, strings.Repeat("n", 33): api.ErrBig, strings.Repeat("/", 257): api.ErrBig, "a": api.ErrDir, "/": api.ErrDir, ".": api.ErrDir, "a/..": api.ErrDir, "l/": api.ErrDir, "e": api.ErrDir} {
		for _, to := range []string{"", "/", "a/..", "n", "g", "a", from, "none/n", "g/n", "x/n", strings.Repeat("n", 257)} {
			refused(t, f, wrong, from+" "+to, func() api.Errno { return f.Link(1, from, to) })
		}
	}
	for _, to := range []string{"g", "a", "l", "x", "a/b/f", "l/f"} {
		refused(t, f, api.ErrThere, to, func() api.Errno { return f.Link(1, "g", to) })
	}
}

func TestUnlink(t *testing.T) {
	f := some(t)
	n, x := node(t, f, "a/b/f"), node(t, f, "x")
	does(t, "Unlink", f.Unlink(1, "l/f"), api.OK)
	both(t, f, 1, "a/b/f", 0, api.ErrNone)
	none(t, f, n, api.ErrNone)
	free(t, f, 26, 31)
	// A link is not followed.
	does(t, "Unlink", f.Unlink(1, "to"), api.OK)
	both(t, f, 1, "g", node(t, f, "g"), api.OK)
	does(t, "Unlink", f.Unlink(1, "x/"), api.OK)
	none(t, f, x, api.ErrNone)
	does(t, "Unlink", f.Unlink(1, "abs"), api.OK)
	does(t, "Unlink", f.Unlink(node(t, f, "a/b"), "/no"), api.OK)
	free(t, f, 30, 35)
	list(t, f, 1, "a", "e", "g", "l", "ll", "up")
	for _, path := range []string{"x", "none", "a/b/f", "l/f", "f"} {
		refused(t, f, api.ErrNone, path, func() api.Errno { return f.Unlink(1, path) })
	}
	for _, path := range []string{"a", "a/", "a/b", "e", "up/b"} {
		refused(t, f, api.ErrDir, path, func() api.Errno { return f.Unlink(1, path) })
	}
}

func TestRmdir(t *testing.T) {
	f := some(t)
	e := node(t, f, "e")
	for _, path := range []string{"a", "a/", "a/b", "up/b", "/a/b//"} {
		refused(t, f, api.ErrFull, path, func() api.Errno { return f.Rmdir(1, path) })
	}
	for _, path := range []string{"g", "g/", "a/b/f", "l", "l/", "x", "no", "to"} {
		refused(t, f, api.ErrNoDir, path, func() api.Errno { return f.Rmdir(1, path) })
	}
	for _, path := range []string{"none", "a/c", "none/c", "l/c"} {
		refused(t, f, api.ErrNone, path, func() api.Errno { return f.Rmdir(1, path) })
	}
	refused(t, f, api.ErrFull, "from below", func() api.Errno { return f.Rmdir(node(t, f, "a/b"), "../../a") })
	does(t, "Rmdir", f.Rmdir(node(t, f, "a"), "../e/"), api.OK)
	none(t, f, e, api.ErrNone)
	both(t, f, 1, "e", 0, api.ErrNone)
	free(t, f, 26, 30)
	// One by one, till nothing is left but the root.
	for _, path := range []string{"a/b/f", "a/b/near", "a/back", "abs", "g", "l", "ll", "no", "to", "up", "x"} {
		does(t, "Unlink", f.Unlink(1, path), api.OK)
	}
	does(t, "Rmdir", f.Rmdir(1, "a"), api.ErrFull)
	does(t, "Rmdir", f.Rmdir(1, "a/b"), api.OK)
	does(t, "Rmdir", f.Rmdir(1, "a"), api.OK)
	prints(t, f, "")
	stat(t, f, 1, inodes.Dir, 0, 1)
	free(t, f, 39, 40)
}

// A directory may be taken away from within: it is no directory any more, then.
func TestRmdirWithin(t *testing.T) {
	f := some(t)
	e := node(t, f, "e")
	does(t, "Rmdir", f.Rmdir(e, "../e"), api.OK)
	noDir(t, f, e, api.ErrNoDir)
}
