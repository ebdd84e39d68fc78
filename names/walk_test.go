package names_test

import (
	"strconv"
	"strings"
	"testing"

	"conch/api"
)

// P13.1: the walk

func TestWalk(t *testing.T) {
	f := some(t)
	a, b, file, g := node(t, f, "a"), node(t, f, "a/b"), node(t, f, "a/b/f"), node(t, f, "g")
	for _, c := range []struct {
		dir  int
		path string
		want int
		e    api.Errno
	}{
		{1, "", 0, api.ErrNone},
		{a, "", 0, api.ErrNone},
		{1, "/", 1, api.OK},
		{b, "/", 1, api.OK},
		{b, "//", 1, api.OK},
		{b, "/////", 1, api.OK},
		{1, "a", a, api.OK},
		{b, "/a", a, api.OK},
		{b, "a", 0, api.ErrNone},
		{1, "a/b/f", file, api.OK},
		{a, "b/f", file, api.OK},
		{b, "f", file, api.OK},
		{a, "///a//b////f", file, api.OK},
		{1, "a//b///f", file, api.OK},
		// a stroke at its end
		{1, "a/", a, api.OK},
		{1, "a/b//", b, api.OK},
		{1, "g/", 0, api.ErrNoDir},
		{1, "g///", 0, api.ErrNoDir},
		{1, "a/b/f/", 0, api.ErrNoDir},
		{1, "l/", b, api.OK},
		{1, "to/", 0, api.ErrNoDir},
		{1, "no/", 0, api.ErrNone},
		{1, "x/", 0, api.ErrLoop},
		// . and ..
		{1, ".", 1, api.OK},
		{b, ".", b, api.OK},
		{b, "./", b, api.OK},
		{b, "./.", b, api.OK},
		{b, "././f", file, api.OK},
		{b, "..", a, api.OK},
		{b, "../", a, api.OK},
		{b, "../..", 1, api.OK},
		{1, "..", 1, api.OK},
		{1, "../../..", 1, api.OK},
		{b, "../../../../a/b", b, api.OK},
		{1, "/..", 1, api.OK},
		{b, "/../g", g, api.OK},
		{1, "a/../a/./b/../../g", g, api.OK},
		{1, "...", 0, api.ErrNone},
		{1, "a/.b", 0, api.ErrNone},
		// what is not there, and what is no directory
		{1, "c", 0, api.ErrNone},
		{1, "c/", 0, api.ErrNone},
		{1, "c/d", 0, api.ErrNone},
		{1, "c/..", 0, api.ErrNone},
		{1, "A", 0, api.ErrNone},
		{1, "a ", 0, api.ErrNone},
		{1, "a/c", 0, api.ErrNone},
		{1, "a/a", 0, api.ErrNone},
		{1, "g/f", 0, api.ErrNoDir},
		{1, "g/.", 0, api.ErrNoDir},
		{1, "g/..", 0, api.ErrNoDir},
		{1, "a/b/f/..", 0, api.ErrNoDir},
		{1, "a/b/f/../f", 0, api.ErrNoDir},
		{1, "g/no/x", 0, api.ErrNoDir},
	} {
		both(t, f, c.dir, c.path, c.want, c.e)
	}
}

func TestWalkLinks(t *testing.T) {
	f := some(t)
	a, b, file, g := node(t, f, "a"), node(t, f, "a/b"), node(t, f, "a/b/f"), node(t, f, "g")
	// As the last part they are followed, or they are what is come to.
	for path, want := range map[string]int{"l": b, "up": a, "abs": b, "a/back": 1, "to": g, "a/b/near": file, "ll": file, "a/back/l/near": file, "l/../back": 1, "./l": b, "/l": b} {
		walk(t, f, 1, path, true, want, api.OK)
		n, e := f.Walk(1, path, false)
		if n == want || e != api.OK {
			t.Errorf("%s: %d, %d", path, n, int(e))
		}
		if _, e := f.Readlink(n); e != api.OK {
			t.Errorf("%s: %d, %d", path, n, int(e))
		}
	}
	for path, wrong := range map[string]api.Errno{"x": api.ErrLoop, "no": api.ErrNone, "a/back/no": api.ErrNone, "a/back/x": api.ErrLoop} {
		walk(t, f, 1, path, true, 0, wrong)
		if n, e := f.Walk(1, path, false); n == 0 || e != api.OK {
			t.Errorf("%s: %d, %d", path, n, int(e))
		}
	}
	// Ahead of other parts they are followed, whether the walk follows or not.
	for _, c := range []struct {
		dir  int
		path string
		want int
		e    api.Errno
	}{
		{1, "l/f", file, api.OK},
		{1, "l/.", b, api.OK},
		{1, "l/..", a, api.OK},
		{1, "l//f", file, api.OK},
		{1, "up/b", b, api.OK},
		{1, "abs/f", file, api.OK},
		{b, "/l/f", file, api.OK},
		{b, "../back/g", g, api.OK},
		{b, "../back/abs/../b/f", file, api.OK},
		{1, "a/back/a/back/a/back/g", g, api.OK},
		{1, "to/f", 0, api.ErrNoDir},
		{1, "to/..", 0, api.ErrNoDir},
		{1, "ll/f", 0, api.ErrNoDir},
		{1, "no/f", 0, api.ErrNone},
		{1, "no/..", 0, api.ErrNone},
		{1, "x/f", 0, api.ErrLoop},
		{1, "l/no", 0, api.ErrNone},
	} {
		both(t, f, c.dir, c.path, c.want, c.e)
	}
}

// What a link says is walked from the directory that the name stands in by which it was come to.
func TestWalkFromWhereALinkStands(t *testing.T) {
	f := some(t)
	mkdir(t, f, 1, "e/b")
	n, m := file(t, f, 1, "e/b/f"), file(t, f, 1, "f")
	does(t, "Link", f.Link(1, "a/b/near", "near"), api.OK)
	does(t, "Link", f.Link(1, "a/b/near", "e/b/near"), api.OK)
	walk(t, f, 1, "near", true, m, api.OK)
	walk(t, f, node(t, f, "a"), "/e/b/near", true, n, api.OK)
	walk(t, f, node(t, f, "e"), "../l/near", true, node(t, f, "a/b/f"), api.OK)
	does(t, "Rename", f.Rename(1, "a/b/near", "e/near"), api.OK)
	walk(t, f, 1, "e/near", true, 0, api.ErrNone)
}

// A link whose text has strokes, and parts that are no names, is walked as a path is.
func TestWalkTexts(t *testing.T) {
	f := some(t)
	b, g := node(t, f, "a/b"), node(t, f, "g")
	for i, c := range []struct {
		text string
		want int
		e    api.Errno
	}{
		{"/", 1, api.OK},
		{"///", 1, api.OK},
		{".", 6, api.OK},
		{"..", 1, api.OK},
		{"../a/b/", b, api.OK},
		{"//a///b//", b, api.OK},
		{"../l", b, api.OK},
		{"../l/", b, api.OK},
		{"../g", g, api.OK},
		{"../g/", 0, api.ErrNoDir},
		{"../g/..", 0, api.ErrNoDir},
		{"../to/", 0, api.ErrNoDir},
		{"../no", 0, api.ErrNone},
		{"../x", 0, api.ErrLoop},
		{"b", 0, api.ErrNone},
		{"../" + strings.Repeat("n", 32), 0, api.ErrNone},
		{"../" + strings.Repeat("n", 33), 0, api.ErrBig},
		{"no/" + strings.Repeat("n", 33), 0, api.ErrNone},
		{strings.Repeat("./", 128), 6, api.OK},
		{strings.Repeat("n", 256), 0, api.ErrBig},
		{"\x00", 0, api.ErrNone},
	} {
		name := strconv.Itoa(i)
		if e := node(t, f, "e"); e != 6 {
			t.Fatal(e)
		}
		n := symlink(t, f, 1, c.text, "e/"+name)
		if text, e := f.Readlink(n); text != c.text || e != api.OK {
			t.Fatalf("%q, %d; want %q", text, int(e), c.text)
		}
		walk(t, f, 1, "e/"+name, true, c.want, c.e)
		walk(t, f, b, "../../e/"+name, true, c.want, c.e)
		walk(t, f, 1, "e/"+name, false, n, api.OK)
		behind := c.e
		switch {
		case c.want == g:
			behind = api.ErrNoDir
		case c.e == api.OK:
			behind = api.ErrNone
		}
		both(t, f, 1, "e/"+name+"/nothing", 0, behind)
		does(t, "Unlink", f.Unlink(1, "e/"+name), api.OK)
	}
}

func TestWalkLengths(t *testing.T) {
	f := made(t, 20, 20)
	name := strings.Repeat("n", 32)
	dir, long := 1, ""
	for range 7 {
		dir = mkdir(t, f, dir, name)
		long += "/" + name
	}
	both(t, f, 1, long, dir, api.OK)
	both(t, f, dir, long+strings.Repeat("/", 256-len(long)), dir, api.OK)
	both(t, f, dir, long+strings.Repeat("/", 257-len(long)), 0, api.ErrBig)
	both(t, f, 1, strings.Repeat("/", 256), 1, api.OK)
	both(t, f, 1, strings.Repeat("/", 257), 0, api.ErrBig)
	both(t, f, 1, strings.Repeat("./", 128), 1, api.OK)
	both(t, f, 1, strings.Repeat("./", 128)+".", 0, api.ErrBig)
	both(t, f, 1, strings.Repeat("x", 257), 0, api.ErrBig)
	both(t, f, 1, strings.Repeat("x", 10000), 0, api.ErrBig)
	// Of a part the length is asked first, whether there is such a name or not; but ahead of it, whether it has a directory to stand in.
	for n := 30; n <= 40; n++ {
		part := strings.Repeat("x", n)
		wrong := api.ErrNone
		if n > 32 {
			wrong = api.ErrBig
		}
		both(t, f, 1, part, 0, wrong)
		both(t, f, 1, part+"/", 0, wrong)
		both(t, f, 1, name+"/"+part, 0, wrong)
		both(t, f, 1, part+"/y", 0, wrong)
		both(t, f, 1, "none/"+part, 0, api.ErrNone)
	}
	file(t, f, 1, "f")
	both(t, f, 1, "f/"+strings.Repeat("x", 33), 0, api.ErrNoDir)
	both(t, f, 1, strings.Repeat("x", 256), 0, api.ErrBig)
	both(t, f, 1, strings.Repeat(".", 33), 0, api.ErrBig)
	both(t, f, 1, strings.Repeat(".", 32), 0, api.ErrNone)
	// A path is refused as a whole, ahead of what its parts would come to.
	both(t, f, 1, "none/"+strings.Repeat("/", 252), 0, api.ErrBig)
	both(t, f, 1, "f/"+strings.Repeat("/", 255), 0, api.ErrBig)
}

// row is links 1 to n, each of which says the one ahead of it; 0 is a directory with a file f.
func row(t *testing.T, n int) (int, int, func(path string, follow bool, want int, wrong api.Errno)) {
	t.Helper()
	f := made(t, 40, 40)
	dir := mkdir(t, f, 1, "0")
	in := file(t, f, 1, "0/f")
	for i := 1; i <= n; i++ {
		symlink(t, f, 1, strconv.Itoa(i-1), strconv.Itoa(i))
	}
	symlink(t, f, 1, "1/..", "twice") // twice is a link more than 1
	return dir, in, func(path string, follow bool, want int, wrong api.Errno) {
		t.Helper()
		walk(t, f, 1, path, follow, want, wrong)
	}
}

// Eight links are followed in one walk, not nine: in a row, one behind the other in a path, or both.
func TestWalkLoop(t *testing.T) {
	dir, in, goes := row(t, 12)
	for i := 1; i <= 12; i++ {
		want, file, wrong := dir, in, api.OK
		if i > 8 {
			want, file, wrong = 0, 0, api.ErrLoop
		}
		name := strconv.Itoa(i)
		goes(name, true, want, wrong)
		goes(name+"/", true, want, wrong)
		goes(name+"/", false, want, wrong)
		goes(name+"/f", true, file, wrong)
		goes(name+"/f", false, file, wrong)
		goes(strings.Repeat("1/../", i)+"0", true, want, wrong)
		goes(strings.Repeat("1/../", i)+"0/f", false, file, wrong)
		// The last one is one more if it is followed.
		goes(strings.Repeat("1/../", i-1)+"1", true, want, wrong)
	}
	goes("8/../1", true, 0, api.ErrLoop)
	goes("7/../1", true, dir, api.OK)
	goes("6/../2", true, dir, api.OK)
	goes("2/../6/f", true, in, api.OK)
	goes("2/../7/f", true, 0, api.ErrLoop)
	goes("4/../5/..", true, 0, api.ErrLoop)
	goes("twice/twice/twice/twice/0", true, dir, api.OK)
	goes("twice/twice/twice/twice/1", true, 0, api.ErrLoop)
	goes("twice/twice/twice/2", true, dir, api.OK)
	goes("twice/twice/twice/3", true, 0, api.ErrLoop)
	// What is not followed does not count.
	_, _, goes = row(t, 9)
	for _, path := range []string{"9", "8/../9", "4/../4/../9", "twice/twice/twice/twice/9"} {
		goes(path, false, 12, api.OK)
	}
}

// The ninth link is refused ahead of what it would come to; a walk that ends ahead of it ends so.
func TestWalkLoopOrder(t *testing.T) {
	f := made(t, 40, 40)
	symlink(t, f, 1, "nothing", "0")
	for i := 1; i <= 9; i++ {
		symlink(t, f, 1, strconv.Itoa(i-1), strconv.Itoa(i))
	}
	walk(t, f, 1, "7", true, 0, api.ErrNone)
	walk(t, f, 1, "8", true, 0, api.ErrLoop)
	symlink(t, f, 1, "loop/x", "loop")
	both(t, f, 1, "loop/"+strings.Repeat("n", 33), 0, api.ErrLoop)
	symlink(t, f, 1, "two", "one")
	symlink(t, f, 1, "one", "two")
	walk(t, f, 1, "one", true, 0, api.ErrLoop)
	both(t, f, 1, "two/..", 0, api.ErrLoop)
	// Each walk counts for itself.
	symlink(t, f, 1, "/", "r")
	for range 20 {
		walk(t, f, 1, strings.Repeat("r/", 8), true, 1, api.OK)
		walk(t, f, 1, strings.Repeat("r/", 9), true, 0, api.ErrLoop)
	}
}
