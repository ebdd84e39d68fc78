package names_test

import (
	"strings"
	"testing"

	"conch/api"
	"conch/inodes"
)

// P13.4

// above is the path of what a path's last part stands in.
func above(path string) string {
	if at := strings.LastIndex(path, "/"); at >= 0 {
		return path[:at]
	}
	return "/"
}

func TestRename(t *testing.T) {
	for _, c := range []struct{ dir, from, to, was, now string }{
		{"/", "g", "h", "g", "h"},
		{"/", "g", "a/g", "g", "a/g"},
		{"a/b", "/g", "g", "g", "a/b/g"},
		{"a/b", "f", "../../f", "a/b/f", "f"},
		{"/", "l/f", "up/f", "a/b/f", "a/f"},
		{"/", "g/", "h//", "g", "h"},
		{"/", "l", "e/l", "l", "e/l"},
		{"/", "x", "a/x", "x", "a/x"},
		{"/", "l/", "m/", "l", "m"},
		{"/", "a", "c", "a", "c"},
		{"/", "a/b", "b", "a/b", "b"},
		{"/", "a", "e/a", "a", "e/a"},
		{"/", "e", "a/b/e", "e", "a/b/e"},
		{"/", "e", "l/e/", "e", "a/b/e"},
		{"a/b", "../../e", ".././e", "e", "a/e"},
		{"/", "g", strings.Repeat("n", 32), "g", strings.Repeat("n", 32)},
		// over a name that is there
		{"/", "g", "a/b/f", "g", "a/b/f"},
		{"/", "a/b/f", "g", "a/b/f", "g"},
		{"/", "g", "l", "g", "l"},
		{"/", "g", "x", "g", "x"},
		{"/", "l", "g", "l", "g"},
		{"/", "l", "no", "l", "no"},
		{"/", "a", "e", "a", "e"},
		{"/", "a/b", "e/", "a/b", "e"},
	} {
		f := some(t)
		n := node(t, f, c.was)
		info, _ := f.Stat(n)
		other, taken := f.Walk(1, c.now, false)
		nodes, _ := f.Free()
		does(t, c.from+" to "+c.to, f.Rename(node(t, f, c.dir), c.from, c.to), api.OK)
		walk(t, f, 1, c.was, false, 0, api.ErrNone)
		walk(t, f, 1, c.now, false, n, api.OK)
		stat(t, f, n, info.Kind, info.Size, info.Links)
		if taken == api.OK {
			none(t, f, other, api.ErrNone)
			nodes++
		}
		if now, _ := f.Free(); now != nodes {
			t.Errorf("%s to %s: %d nodes are free; want %d", c.from, c.to, now, nodes)
		}
		if info.Kind == inodes.Dir {
			both(t, f, n, "..", node(t, f, above(c.now)), api.OK)
		}
	}
}

// All that is below a directory comes with it, and `..` of it leads to where it is now.
func TestRenameDirectory(t *testing.T) {
	f := some(t)
	a, b, n := node(t, f, "a"), node(t, f, "a/b"), node(t, f, "a/b/f")
	does(t, "Rename", f.Rename(1, "a", "e/c"), api.OK)
	prints(t, f, "/abs -> /a/b\n/e/\n/e/c/\n/e/c/b/\n/e/c/b/f 2\nhi\n/e/c/b/near -> f\n/e/c/back -> ..\n/g 0\n\n/l -> a/b\n/ll -> l/near\n/no -> nowhere\n/to -> g\n/up -> ../a\n/x -> x\n")
	both(t, f, 1, "e/c/b/f", n, api.OK)
	both(t, f, b, "../..", node(t, f, "e"), api.OK)
	walk(t, f, a, "back", true, node(t, f, "e"), api.OK)
	walk(t, f, 1, "l", true, 0, api.ErrNone)
	does(t, "Rename", f.Rename(a, "b", "/e/b"), api.OK)
	both(t, f, b, "..", node(t, f, "e"), api.OK)
	list(t, f, a, "back")
	stat(t, f, node(t, f, "e"), inodes.Dir, 2, 1)
	does(t, "Rename", f.Rename(b, "../c", "/a"), api.OK)
	does(t, "Rename", f.Rename(b, "/e/b", "/a/b"), api.OK)
	prints(t, f, some(t).Print())
}

// To lead to the same node is to do nothing: to itself, and to another name of it.
func TestRenameSame(t *testing.T) {
	f := some(t)
	does(t, "Link", f.Link(1, "g", "e/h"), api.OK)
	does(t, "Link", f.Link(1, "x", "e/x"), api.OK)
	for _, c := range []struct{ from, to string }{{"g", "g"}, {"g", "/g/"}, {"g", "a/../g"}, {"g", "e/h"}, {"e/h", "g"}, {"a", "a"}, {"a", "up/../a/"}, {"a/b", "up/b"}, {"e", "e"}, {"l", "l"}, {"x", "x/"}, {"x", "e/x"}} {
		refused(t, f, api.OK, c.from+" to "+c.to, func() api.Errno { return f.Rename(1, c.from, c.to) })
	}
}

func TestRenameRefused(t *testing.T) {
	f := some(t)
	mkdir(t, f, 1, "a/b/c")
	mkdir(t, f, 1, "full")
	file(t, f, 1, "full/f")
	long := strings.Repeat("n", 33)
	for _, c := range []struct {
		from, to string
		e        api.Errno
	}{
		// the place of from, then that of to
		{"", "", api.ErrNone},
		{"", ".", api.ErrNone},
		{".", "", api.ErrArg},
		{"/", long, api.ErrArg},
		{"a/..", "none/n", api.ErrArg},
		{long, ".", api.ErrBig},
		{"none/n", ".", api.ErrNone},
		{"g/n", ".", api.ErrNoDir},
		{"x/n", ".", api.ErrLoop},
		{"none", "", api.ErrNone},
		{"none", ".", api.ErrArg},
		{"none", "/", api.ErrArg},
		{"none", long, api.ErrBig},
		{"none", "g/n", api.ErrNoDir},
		{"none", "x/n", api.ErrLoop},
		{"g", "", api.ErrNone},
		{"g", "..", api.ErrArg},
		{"g", long, api.ErrBig},
		{"g", "g/g", api.ErrNoDir},
		{"g", "none/n", api.ErrNone},
		// no from
		{"none", "none", api.ErrNone},
		{"none", "n", api.ErrNone},
		{"none", "g", api.ErrNone},
		{"none", "a", api.ErrNone},
		{"a/none", "a", api.ErrNone},
		{"none", "none2", api.ErrNone},
		// into itself, and below itself, be there a to or not
		{"a", "a/n", api.ErrCross},
		{"a", "a/b", api.ErrCross},
		{"a", "a/b/n", api.ErrCross},
		{"a", "a/b/f", api.ErrCross},
		{"a", "a/back", api.ErrCross},
		{"a", "a/b/c", api.ErrCross},
		{"a", "a/b/c/n", api.ErrCross},
		{"a", "up/n", api.ErrCross},
		{"a", "l/n", api.ErrCross},
		{"a/b", "l/c", api.ErrCross},
		{"e", "e/n", api.ErrCross},
		// over others
		{"a", "g", api.ErrNoDir},
		{"e", "g", api.ErrNoDir},
		{"e", "a/b/f", api.ErrNoDir},
		{"a", "l", api.ErrNoDir},
		{"a", "up", api.ErrNoDir},
		{"e", "x", api.ErrNoDir},
		{"e", "no", api.ErrNoDir},
		{"g", "a", api.ErrDir},
		{"g", "e", api.ErrDir},
		{"g", "e/", api.ErrDir},
		{"l", "a", api.ErrDir},
		{"l", "a/b", api.ErrDir},
		{"x", "e", api.ErrDir},
		{"a/b/f", "a", api.ErrDir},
		{"a/b/f", "a/b", api.ErrDir},
		{"e", "a", api.ErrFull},
		{"e", "full", api.ErrFull},
		{"a", "full", api.ErrFull},
		{"full", "a/b", api.ErrFull},
		{"a/b", "a", api.ErrFull},
		{"a/b/c", "a", api.ErrFull},
		{"a/b/c", "a/b", api.ErrFull},
	} {
		refused(t, f, c.e, c.from+" to "+c.to, func() api.Errno { return f.Rename(1, c.from, c.to) })
	}
}

// That the directory of to has no name any more is told ahead of all that hangs on from and to, but for their places.
func TestRenameIntoNoName(t *testing.T) {
	f := some(t)
	d := mkdir(t, f, 1, "a/d")
	does(t, "Hold", f.Hold(d), api.OK)
	does(t, "Rmdir", f.Rmdir(1, "a/d"), api.OK)
	for _, from := range []string{"/g", "/a", "/e", "/l", "/none", "none"} {
		refused(t, f, api.ErrNone, from, func() api.Errno { return f.Rename(d, from, "n") })
	}
	refused(t, f, api.ErrArg, "to", func() api.Errno { return f.Rename(d, "/g", ".") })
	// From there a Rename is as from elsewhere.
	does(t, "Rename", f.Rename(d, "../b", "../../b"), api.OK)
	both(t, f, 1, "b/f", node(t, f, "b/f"), api.OK)
}

// What a Rename takes the place of is no more, but if it has other names or users.
func TestRenameOverUsed(t *testing.T) {
	f := some(t)
	g, n := node(t, f, "g"), node(t, f, "a/b/f")
	does(t, "Hold", f.Hold(n), api.OK)
	does(t, "Rename", f.Rename(1, "g", "a/b/f"), api.OK)
	both(t, f, 1, "a/b/f", g, api.OK)
	stat(t, f, n, inodes.File, 2, 0)
	has(t, f, n, "hi")
	does(t, "Loose", f.Loose(n), api.OK)
	none(t, f, n, api.ErrNone)
	free(t, f, 26, 31)
	m := file(t, f, 1, "m")
	does(t, "Link", f.Link(1, "m", "m2"), api.OK)
	does(t, "Rename", f.Rename(1, "a/b/f", "m"), api.OK)
	both(t, f, 1, "m", g, api.OK)
	both(t, f, 1, "m2", m, api.OK)
	stat(t, f, m, inodes.File, 0, 1)
	stat(t, f, g, inodes.File, 0, 1)
}

// Two directories change their places by a third name.
func TestRenameRound(t *testing.T) {
	f := some(t)
	a, e := node(t, f, "a"), node(t, f, "e")
	for range 3 {
		does(t, "Rename", f.Rename(1, "a", "t"), api.OK)
		does(t, "Rename", f.Rename(1, "e", "a"), api.OK)
		does(t, "Rename", f.Rename(1, "t", "e"), api.OK)
		both(t, f, 1, "a", e, api.OK)
		both(t, f, 1, "e", a, api.OK)
		a, e = e, a
	}
	// Below one another, each way: the one that is above may not go below.
	does(t, "Rename", f.Rename(1, "a", "e/a"), api.OK)
	does(t, "Rename", f.Rename(1, "e", "e/a/e"), api.ErrCross)
	does(t, "Rename", f.Rename(1, "e/a", "a"), api.OK)
	does(t, "Rename", f.Rename(1, "e", "a/e"), api.OK)
	does(t, "Rename", f.Rename(1, "a", "a/e/a"), api.ErrCross)
}
