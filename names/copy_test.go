package names_test

import (
	"testing"

	"conch/api"
	"conch/names"
)

// P13.5: Copy

func TestCopyHasTheSame(t *testing.T) {
	f := some(t)
	f.Hold(node(t, f, "g"))
	f.Hold(node(t, f, "e"))
	f.Rmdir(1, "e")
	c := f.Copy()
	if c == nil || c == f {
		t.Fatalf("Copy: %v", c)
	}
	if was, now := shown(f, 40), shown(c, 40); was != now {
		t.Fatalf("%s; want %s", now, was)
	}
	// It goes on as what it is a copy of.
	for _, x := range []*names.FS{f, c} {
		x.Make(1, "a/n")
		x.Loose(6)
		x.Symlink(1, "a/n", "n")
		x.Rename(1, "a/b", "b")
	}
	if was, now := shown(f, 40), shown(c, 40); was != now {
		t.Fatalf("%s; want %s", now, was)
	}
}

// Whatever is done to the one, the other one tells as before, and goes on as before.
func TestCopyMindsNothing(t *testing.T) {
	for name, do := range map[string]func(f *names.FS) api.Errno{
		"make":              func(f *names.FS) api.Errno { return maker(f, 1, "n") },
		"make below":        func(f *names.FS) api.Errno { return maker(f, 1, "a/b/n") },
		"mkdir":             func(f *names.FS) api.Errno { return f.Mkdir(1, "a/n") },
		"symlink":           func(f *names.FS) api.Errno { return f.Symlink(1, "g", "e/n") },
		"link":              func(f *names.FS) api.Errno { return f.Link(1, "g", "n") },
		"unlink":            func(f *names.FS) api.Errno { return f.Unlink(1, "g") },
		"unlink a link":     func(f *names.FS) api.Errno { return f.Unlink(1, "l") },
		"unlink below":      func(f *names.FS) api.Errno { return f.Unlink(1, "a/b/f") },
		"rmdir":             func(f *names.FS) api.Errno { return f.Rmdir(1, "e") },
		"rename":            func(f *names.FS) api.Errno { return f.Rename(1, "g", "h") },
		"rename over":       func(f *names.FS) api.Errno { return f.Rename(1, "a/b/f", "g") },
		"rename, directory": func(f *names.FS) api.Errno { return f.Rename(1, "a/b", "e") },
		"write":             func(f *names.FS) api.Errno { _, e := f.Write(5, 70, "other"); return e },
		"write over":        func(f *names.FS) api.Errno { _, e := f.Write(4, 0, "o"); return e },
		"cut":               func(f *names.FS) api.Errno { return f.Cut(4, 1) },
		"hold":              func(f *names.FS) api.Errno { return f.Hold(3) },
		"loose":             func(f *names.FS) api.Errno { return f.Loose(5) },
	} {
		for _, way := range []string{"the copy", "what was copied", "the copy of a copy"} {
			one := some(t)
			one.Hold(5)
			two := one.Copy()
			switch way {
			case "what was copied":
				one, two = two, one
			case "the copy of a copy":
				two = two.Copy()
			}
			was := shown(one, 40)
			does(t, name, do(two), api.OK)
			if shown(two, 40) == was {
				t.Errorf("%s to %s: nothing was done", name, way)
			}
			if now := shown(one, 40); now != was {
				t.Errorf("%s to %s: %s; want %s", name, way, now, was)
			}
			// The other one does it too, and has the same then.
			does(t, name, do(one), api.OK)
			if one, two := shown(one, 40), shown(two, 40); one != two {
				t.Errorf("%s to %s: %s; want %s", name, way, one, two)
			}
		}
	}
}

func TestCopyOfNew(t *testing.T) {
	f := made(t, 2, 2)
	c := f.Copy()
	write(t, f, file(t, f, 1, "f"), 0, "x")
	free(t, c, 1, 2)
	prints(t, c, "")
	mkdir(t, c, 1, "d")
	prints(t, c, "/d/\n")
	prints(t, f, "/f 1\nx\n")
}
