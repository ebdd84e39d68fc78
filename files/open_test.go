package files_test

import (
	"strings"
	"testing"

	"conch/api"
	"conch/files"
	"conch/names"
)

func TestExamples(t *testing.T) {
	f := made(t, 2, 1)
	o := open(t, f, "a", files.Write|files.Create)
	writes(t, o, "hello", 5, 5)
	p := open(t, f, "a", files.Read)
	reads(t, p, 2, "he")
	reads(t, p, 9, "llo")
	refused(t, f, 1, "a", files.Write|files.Create|files.Excl, api.ErrThere)
}

// P14.1

func TestBits(t *testing.T) {
	for i, flag := range []int{files.Read, files.Write, files.Append, files.Create, files.Trunc, files.Excl} {
		if flag != 1<<i {
			t.Errorf("flag %d: %d", i, flag)
		}
	}
}

// A nil tree, and one that names did not make: whatever else is wrong.
func TestNilTree(t *testing.T) {
	for _, f := range []*names.FS{nil, {}} {
		for _, dir := range []int{least, 0, 1, 2, most} {
			for _, path := range []string{"", "a", "/", strings.Repeat("n", 257)} {
				for _, flags := range []int{least, -1, 0, r, w, a, c, tr, x, r | w | c, 63, 64, 64 | r, most} {
					if o, e := files.Open(f, dir, path, flags); o != nil || e != api.ErrNil {
						t.Errorf("Open(nil, %d, %.300q, %d): %v, %d", dir, path, flags, o, int(e))
					}
				}
			}
		}
	}
}

// Flags that are wrong are wrong whatever the directory and the path.
func TestFlagsRefused(t *testing.T) {
	f := some(t)
	wrong := []int{least, least | r, -64, -64 | r | w, -1, 64, 128, 64 | r, 64 | w | c, 127, 1 << 16, 1<<16 | r, 1<<32 | r, 1 << 62, most}
	for flags := range 64 {
		if flags&(r|w) == 0 {
			wrong = append(wrong, flags)
		}
	}
	for _, flags := range wrong {
		for _, path := range []string{"f", "d", "to", "no", "new", "f/", "no/new", "", "/", "x", strings.Repeat("n", 257)} {
			for _, dir := range []int{1, 3, 2, 99} {
				refused(t, f, dir, path, flags, api.ErrArg)
			}
		}
	}
}

// way is what an Open of a path comes to.
type way struct {
	path      string
	plain     api.Errno // without Create
	create    api.Errno // with Create
	exclusive api.Errno // with Create and Excl
	node      int       // that is opened; 0 of a new one
	dir       int       // from which the path goes; the root, if it is 0
	printed   string    // of a new one: what the tree shows of it
}

func ways() []way {
	long := strings.Repeat("n", 32)
	return []way{
		{path: "f", exclusive: api.ErrThere, node: 2},
		{path: "/f", exclusive: api.ErrThere, node: 2, dir: 3},
		{path: "../f", exclusive: api.ErrThere, node: 2, dir: 3},
		{path: "g", exclusive: api.ErrThere, node: 4, dir: 3},
		{path: "./d//g", exclusive: api.ErrThere, node: 4},
		{path: "in/g", exclusive: api.ErrThere, node: 4},
		{path: "to", exclusive: api.ErrThere, node: 2},
		{path: "far", exclusive: api.ErrThere, node: 4},
		{path: "in/up", exclusive: api.ErrThere, node: 2},
		{path: "d", plain: api.ErrDir, create: api.ErrDir, exclusive: api.ErrThere},
		{path: "d/", plain: api.ErrDir, create: api.ErrDir, exclusive: api.ErrThere},
		{path: "in", plain: api.ErrDir, create: api.ErrDir, exclusive: api.ErrThere},
		{path: "/", plain: api.ErrDir, create: api.ErrDir, exclusive: api.ErrThere},
		{path: ".", plain: api.ErrDir, create: api.ErrDir, exclusive: api.ErrThere},
		{path: "..", plain: api.ErrDir, create: api.ErrDir, exclusive: api.ErrThere, dir: 3},
		{path: "new", plain: api.ErrNone, printed: "/new 0\n\n"},
		{path: "new", plain: api.ErrNone, dir: 3, printed: "/d/new 0\n\n"},
		{path: "/new", plain: api.ErrNone, dir: 3, printed: "/new 0\n\n"},
		{path: "in/new", plain: api.ErrNone, printed: "/d/new 0\n\n"},
		{path: "new/", plain: api.ErrNone, printed: "/new 0\n\n"}, // to make it, strokes at its end do not count
		{path: long, plain: api.ErrNone, printed: "/" + long + " 0\n\n"},
		{path: "no", plain: api.ErrNone, create: api.ErrNone, exclusive: api.ErrNone},
		{path: "no/", plain: api.ErrNone, create: api.ErrNone, exclusive: api.ErrNone},
		{path: "no/new", plain: api.ErrNone, create: api.ErrNone, exclusive: api.ErrNone},
		{path: "new/new", plain: api.ErrNone, create: api.ErrNone, exclusive: api.ErrNone},
		{path: "", plain: api.ErrNone, create: api.ErrNone, exclusive: api.ErrNone},
		{path: "new/.", plain: api.ErrNone, create: api.ErrArg, exclusive: api.ErrArg},
		{path: "new/..", plain: api.ErrNone, create: api.ErrArg, exclusive: api.ErrArg},
		{path: "f/", plain: api.ErrNoDir, create: api.ErrNoDir, exclusive: api.ErrNoDir},
		{path: "f/new", plain: api.ErrNoDir, create: api.ErrNoDir, exclusive: api.ErrNoDir},
		{path: "to/new", plain: api.ErrNoDir, create: api.ErrNoDir, exclusive: api.ErrNoDir},
		{path: "x", plain: api.ErrLoop, create: api.ErrLoop, exclusive: api.ErrLoop},
		{path: long + "n", plain: api.ErrBig, create: api.ErrBig, exclusive: api.ErrBig},
		{path: "new/" + long + "n", plain: api.ErrNone, create: api.ErrBig, exclusive: api.ErrBig},
		{path: strings.Repeat("/", 257), plain: api.ErrBig, create: api.ErrBig, exclusive: api.ErrBig},
		{path: "f", dir: 2, plain: api.ErrNoDir, create: api.ErrNoDir, exclusive: api.ErrNoDir},
		{path: "/f", dir: 5, plain: api.ErrNoDir, create: api.ErrNoDir, exclusive: api.ErrNoDir},
		{path: "new", dir: 6, plain: api.ErrNoDir, create: api.ErrNoDir, exclusive: api.ErrNoDir},
		{path: "new", dir: 11, plain: api.ErrNoDir, create: api.ErrNoDir, exclusive: api.ErrNoDir},
		{path: "new", dir: -1, plain: api.ErrNoDir, create: api.ErrNoDir, exclusive: api.ErrNoDir},
	}
}

// want is the error with these flags.
func (y way) want(flags int) api.Errno {
	switch {
	case flags&c == 0:
		return y.plain
	case flags&x == 0:
		return y.create
	}
	return y.exclusive
}

// Each path with all flags that may be.
func TestOpen(t *testing.T) {
	for _, y := range ways() {
		for flags := range 64 {
			if flags&(r|w) == 0 {
				continue
			}
			f, dir := some(t), y.dir
			if dir == 0 {
				dir = 1
			}
			if e := y.want(flags); e != api.OK {
				refused(t, f, dir, y.path, flags, e)
				continue
			}
			was := f.Copy()
			o, e := files.Open(f, dir, y.path, flags)
			if o == nil || e != api.OK {
				t.Fatalf("Open(%d, %.300q, %d): %v, %d", dir, y.path, flags, o, int(e))
			}
			opened(t, was, f, o, y, flags)
		}
	}
}

// opened holds what an Open came to.
func opened(t *testing.T, was, now *names.FS, o *files.File, y way, flags int) {
	t.Helper()
	at(t, o, 0)
	switch {
	case y.node == 0:
		if o.Node() != 11 || !strings.Contains(now.Print(), y.printed) {
			t.Fatalf("%.300q, %d: %d, %s", y.path, flags, o.Node(), now.Print())
		}
		// But for the name, nothing has changed.
		of := now.Copy()
		does(t, "Loose", of.Loose(11), api.OK)
		path, _, _ := strings.Cut(y.printed, " ")
		does(t, "Unlink", of.Unlink(1, path), api.OK)
		if one, two := shown(of, 20), shown(was, 20); one != two {
			t.Fatalf("%.300q, %d: %s; want %s", y.path, flags, one, two)
		}
	case o.Node() != y.node:
		t.Fatalf("%.300q, %d: %d; want %d", y.path, flags, o.Node(), y.node)
	default:
		if flags&tr != 0 && flags&w != 0 {
			was.Cut(y.node, 0)
		}
		was.Hold(y.node)
		if one, two := shown(now, 20), shown(was, 20); one != two {
			t.Fatalf("%.300q, %d: %s; want %s", y.path, flags, one, two)
		}
	}
	held(t, now, o.Node(), 1)
}

func TestNoNodes(t *testing.T) {
	f := made(t, 3, 1)
	does(t, "Mkdir", f.Mkdir(1, "d"), api.OK)
	n := file(t, f, "f", "full")
	free(t, f, 0, 0)
	refused(t, f, 1, "new", w|c, api.ErrNodes)
	refused(t, f, 1, "new", r|c|x, api.ErrNodes)
	refused(t, f, 1, "d/new", r|c, api.ErrNodes)
	refused(t, f, 1, "new", w, api.ErrNone)
	refused(t, f, 1, "new/new", w|c, api.ErrNone)
	o := open(t, f, "f", w|c)
	if o.Node() != n {
		t.Fatalf("%d; want %d", o.Node(), n)
	}
	contains(t, f, n, "full")
	// A new one needs a node, but no block.
	does(t, "Rmdir", f.Rmdir(1, "d"), api.OK)
	p := open(t, f, "new", w|c)
	free(t, f, 0, 0)
	noWrite(t, f, p, "a", api.ErrSpace)
}

// From a directory without a name nothing is made, but what is above it is opened.
func TestDirectoryWithoutName(t *testing.T) {
	f := some(t)
	does(t, "Mkdir", f.Mkdir(1, "gone"), api.OK)
	dir := node(t, f, "gone")
	does(t, "Hold", f.Hold(dir), api.OK)
	does(t, "Rmdir", f.Rmdir(1, "gone"), api.OK)
	refused(t, f, dir, "new", w|c, api.ErrNone)
	refused(t, f, dir, "new", w, api.ErrNone)
	refused(t, f, dir, ".", r, api.ErrDir)
	if o, e := files.Open(f, dir, "../f", r); e != api.OK || o.Node() != 2 {
		t.Fatalf("../f: %d", int(e))
	}
	does(t, "Loose", f.Loose(dir), api.OK)
	refused(t, f, dir, "../f", r|c, api.ErrNoDir)
}

// A link that led nowhere leads to what is made later.
func TestLinkLater(t *testing.T) {
	f := some(t)
	refused(t, f, 1, "no", w|c, api.ErrNone)
	o := open(t, f, "nowhere", w|c)
	p := open(t, f, "no", w|c)
	if o.Node() != p.Node() {
		t.Fatalf("%d, %d", o.Node(), p.Node())
	}
	refused(t, f, 1, "no", w|c|x, api.ErrThere)
	held(t, f, o.Node(), 2)
}

func TestTrunc(t *testing.T) {
	for _, y := range []struct {
		flags int
		cut   bool
	}{{w | tr, true}, {r | w | tr, true}, {w | a | tr, true}, {w | c | tr, true}, {w | x | tr, true}, {r | tr, false}, {r | c | tr, false}, {r | a | tr, false}, {w, false}, {r | w, false}, {w | a | c, false}, {w | x, false}} {
		f := made(t, 3, 3)
		text := strings.Repeat("t", 130)
		n := file(t, f, "f", text)
		does(t, "Link", f.Link(1, "f", "g"), api.OK)
		does(t, "Symlink", f.Symlink(1, "g", "l"), api.ErrSpace)
		o := open(t, f, "g", y.flags)
		if y.cut {
			contains(t, f, n, "")
			free(t, f, 1, 3)
		} else {
			contains(t, f, n, text)
			free(t, f, 1, 0)
		}
		held(t, f, n, 1)
		does(t, "Close", o.Close(), api.OK)
	}
}

// Where it is refused, nothing is cut.
func TestTruncRefused(t *testing.T) {
	f := some(t)
	refused(t, f, 1, "f", w|c|x|tr, api.ErrThere)
	refused(t, f, 1, "to", w|c|x|tr, api.ErrThere)
	refused(t, f, 1, "d", w|tr, api.ErrDir)
	refused(t, f, 1, "f", tr, api.ErrArg)
	refused(t, f, 1, "f", w|tr|64, api.ErrArg)
	contains(t, f, 2, "old")
}

// What others have open is cut under them: their places stay.
func TestTruncUnderOthers(t *testing.T) {
	f := some(t)
	o := open(t, f, "f", r|w)
	reads(t, o, 2, "ol")
	p := open(t, f, "to", w|tr)
	at(t, o, 2)
	reads(t, o, 9, "")
	writes(t, p, "newer", 5, 5)
	reads(t, o, 9, "wer")
	held(t, f, 2, 2)
}

// Each open file holds its node, and is at a place of its own.
func TestHeld(t *testing.T) {
	f := some(t)
	var all []*files.File
	for i, path := range []string{"f", "to", "/d/up", "f", "d/../f"} {
		all = append(all, open(t, f, path, []int{r, w, r | w, w | a, r | c}[i]))
		held(t, f, 2, i+1)
		if all[i].Node() != 2 {
			t.Fatalf("%s: %d", path, all[i].Node())
		}
	}
	reads(t, all[0], 2, "ol")
	for _, o := range all[1:] {
		at(t, o, 0)
	}
	for i, n := range []int{2, 0, 4, 1, 3} {
		does(t, "Close", all[n].Close(), api.OK)
		held(t, f, 2, 4-i)
	}
	contains(t, f, 2, "old")
}
