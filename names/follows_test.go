package names_test

import (
	"fmt"
	"math/rand"
	"slices"
	"strconv"
	"strings"
	"testing"

	"conch/api"
	"conch/inodes"
	"conch/names"
)

// P13.7, and all of the promises at once, against the model.

// pair is a tree and what it is to tell.
type pair struct {
	f *names.FS
	m *model
}

func newPair(t *testing.T, nodes, blocks int) pair {
	return pair{made(t, nodes, blocks), newModel(nodes, blocks)}
}

func (p pair) copied() pair { return pair{p.f.Copy(), p.m.copied()} }

func (p pair) check(t *testing.T, did string) {
	t.Helper()
	if now, want := shown(p.f, len(p.m.things)), p.m.shown(); now != want {
		t.Fatalf("%s: %s; want %s", did, now, want)
	}
}

// call is a call of a tree that changes it, or is refused.
type call struct {
	kind   int
	dir    int    // or a node
	path   string // or what a link says
	other  string
	at     int
	follow bool
}

// calls are the kinds of calls.
var calls = []string{"Walk", "Make", "Mkdir", "Symlink", "Link", "Unlink", "Rmdir", "Rename", "Hold", "Loose", "Write", "Cut"}

func (c call) String() string {
	return fmt.Sprintf("%s(%d, %q, %q, %d, %v)", calls[c.kind], c.dir, c.path, c.other, c.at, c.follow)
}

// do has both do a call, and holds their answers against each other.
func (p pair) do(t *testing.T, did string, c call) {
	t.Helper()
	var n, want int
	var e, wrong api.Errno
	switch calls[c.kind] {
	case "Walk":
		n, e = p.f.Walk(c.dir, c.path, c.follow)
		want, wrong = p.m.walk(c.dir, c.path, c.follow)
	case "Make":
		n, e = p.f.Make(c.dir, c.path)
		want, wrong = p.m.add(c.dir, c.path, inodes.File, "")
	case "Mkdir":
		e = p.f.Mkdir(c.dir, c.path)
		_, wrong = p.m.add(c.dir, c.path, inodes.Dir, "")
	case "Symlink":
		e = p.f.Symlink(c.dir, c.path, c.other)
		wrong = p.m.symlink(c.dir, c.path, c.other)
	case "Link":
		e = p.f.Link(c.dir, c.path, c.other)
		wrong = p.m.link(c.dir, c.path, c.other)
	case "Unlink":
		e, wrong = p.f.Unlink(c.dir, c.path), p.m.remove(c.dir, c.path, false)
	case "Rmdir":
		e, wrong = p.f.Rmdir(c.dir, c.path), p.m.remove(c.dir, c.path, true)
	case "Rename":
		e = p.f.Rename(c.dir, c.path, c.other)
		wrong = p.m.rename(c.dir, c.path, c.other)
	case "Hold":
		e, wrong = p.f.Hold(c.dir), p.m.use(c.dir, 1)
	case "Loose":
		e, wrong = p.f.Loose(c.dir), p.m.use(c.dir, -1)
	case "Write":
		n, e = p.f.Write(c.dir, c.at, c.other)
		want, wrong = p.m.write(c.dir, c.at, c.other)
	case "Cut":
		e, wrong = p.f.Cut(c.dir, c.at), p.m.cut(c.dir, c.at)
	}
	if n != want || e != wrong {
		t.Fatalf("%s; %v: %d, %d; want %d, %d", did, c, n, int(e), want, int(wrong))
	}
}

// rows has copies do each row of so many of these calls. What follows holds at each place of a row, and what is there stays as it is.
func (p pair) rows(t *testing.T, did string, all []call, left int) {
	t.Helper()
	if left == 0 {
		return
	}
	for _, c := range all {
		next := p.copied()
		next.do(t, did, c)
		next.check(t, did+"; "+c.String())
		holds(t, next.f, len(next.m.things))
		next.rows(t, did+"; "+c.String(), all, left-1)
	}
	p.check(t, did+", with all that its copies did")
}

// Each row of these calls, of a tree of five nodes and one block.
func TestRows(t *testing.T) {
	kind := func(name string) int { return slices.Index(calls, name) }
	all := []call{
		{kind: kind("Make"), dir: 1, path: "a"},
		{kind: kind("Mkdir"), dir: 1, path: "a"},
		{kind: kind("Mkdir"), dir: 1, path: "a/b"},
		{kind: kind("Mkdir"), dir: 1, path: "c/"},
		{kind: kind("Symlink"), dir: 1, path: "a/b", other: "c"},
		{kind: kind("Link"), dir: 1, path: "c", other: "a/b"},
		{kind: kind("Unlink"), dir: 1, path: "c"},
		{kind: kind("Rmdir"), dir: 1, path: "a"},
		{kind: kind("Rmdir"), dir: 1, path: "a/b"},
		{kind: kind("Rename"), dir: 1, path: "a", other: "c"},
		{kind: kind("Rename"), dir: 1, path: "c", other: "a/b"},
		{kind: kind("Rename"), dir: 1, path: "a/b", other: "c"},
		{kind: kind("Make"), dir: 2, path: "../c/f"},
		{kind: kind("Hold"), dir: 2},
		{kind: kind("Loose"), dir: 2},
	}
	newPair(t, 5, 1).rows(t, "new", all, 4)
}

// anyPath is a path of few names, which often lead somewhere, with all that a path may have.
func anyPath(r *rand.Rand) string {
	var out []string
	for len(out) == 0 || r.Intn(5) < 2 {
		switch k := r.Intn(60); {
		case k < 50:
			out = append(out, string([]byte{'a' + byte(k%5)}))
		case k < 58:
			out = append(out, []string{".", "..", "..", ""}[k%4])
		default:
			out = append(out, strings.Repeat("n", k-26)) // 32 and 33 bytes
		}
	}
	path := strings.Join(out, "/")
	switch k := r.Intn(80); {
	case k == 0:
		return ""
	case k == 1:
		return path + strings.Repeat("/", 257-len(path))
	case k < 20:
		return "/" + path
	case k < 25:
		return path + "/"
	}
	return path
}

// anyCall is a call whose arguments are mostly right: what is called is mostly of a kind that may be.
func anyCall(r *rand.Rand, m *model) call {
	c := call{kind: r.Intn(len(calls)), path: anyPath(r), other: anyPath(r), at: r.Intn(200) - 5, follow: r.Intn(2) == 0}
	fits := func(i int) bool { return m.kind(i) == inodes.Dir }
	switch calls[c.kind] {
	case "Hold":
		fits = func(i int) bool { return r.Intn(3) == 0 }
	case "Loose":
		fits = func(i int) bool { return m.of(i) != nil && m.of(i).users > 0 }
	case "Write", "Cut":
		fits = func(i int) bool { return m.kind(i) == inodes.File }
	}
	if calls[c.kind] == "Write" {
		c.other = strings.Repeat(string([]byte{byte(r.Intn(256))}), r.Intn(100))
	}
	for range 20 {
		if c.dir = r.Intn(len(m.things) + 2); fits(c.dir) {
			break
		}
	}
	if slices.Contains([]string{"Walk", "Link", "Unlink", "Rmdir", "Rename"}, calls[c.kind]) && r.Intn(3) > 0 {
		c.path = someName(r, m, c.dir, c.path)
	}
	if calls[c.kind] == "Rename" && r.Intn(3) == 0 {
		c.other = someName(r, m, c.dir, c.other)
	}
	return c
}

// someName is a name in a directory, or a path where there is none.
func someName(r *rand.Rand, m *model, dir int, path string) string {
	if m.kind(dir) != inodes.Dir || len(m.of(dir).names) == 0 {
		return path
	}
	return m.of(dir).names[r.Intn(len(m.of(dir).names))].name
}

// Long rows by a fixed seed, over several trees that are copies of one another.
func TestLongRows(t *testing.T) {
	r := rand.New(rand.NewSource(13))
	for _, c := range []struct{ nodes, blocks int }{{1, 1}, {2, 1}, {4, 2}, {6, 6}, {8, 3}, {12, 20}, {20, 12}} {
		all := []pair{newPair(t, c.nodes, c.blocks)}
		for i := range 6000 {
			p := all[r.Intn(len(all))]
			if i%400 == 399 {
				if len(all) < 3 {
					all = append(all, p.copied())
				} else {
					all[r.Intn(len(all))] = p.copied()
				}
			}
			step := anyCall(r, p.m)
			p.do(t, "a long row", step)
			p.check(t, step.String())
			holds(t, p.f, c.nodes)
		}
		for _, p := range all {
			p.check(t, "the end")
		}
	}
}

// holds is what follows of a tree, whatever was done: the names that lead to each node are counted, and what is reached contains nothing twice but by names of files and links.
func holds(t *testing.T, f *names.FS, nodes int) {
	t.Helper()
	leads := map[int]int{1: 1}
	for i := 1; i <= nodes; i++ {
		l, _ := f.List(i)
		for _, name := range l {
			n, e := f.Walk(i, name, false)
			if e != api.OK {
				t.Fatalf("%d: %q, %d", i, name, int(e))
			}
			leads[n]++
		}
	}
	for i := 1; i <= nodes; i++ {
		x, e := f.Stat(i)
		if x.Links != leads[i] {
			t.Fatalf("%d: %v; %d names lead to it", i, x, leads[i])
		}
		if e == api.OK && x.Links == 0 && users(f, i) == 0 {
			t.Fatalf("%d: has neither names nor users", i)
		}
	}
	var down func(dir, above int)
	seen := map[int]int{}
	down = func(dir, above int) {
		if seen[dir]++; seen[dir] > 1 {
			t.Fatalf("%d is reached twice", dir)
		}
		both(t, f, dir, "..", above, api.OK)
		l, _ := f.List(dir)
		for _, name := range l {
			n, _ := f.Walk(dir, name, false)
			if x, _ := f.Stat(n); x.Kind == inodes.Dir {
				down(n, dir)
			}
		}
	}
	down(1, 1)
}

// A name that was made is walked to, until it is taken away; no other name changes by it.
func TestNoOtherName(t *testing.T) {
	const n = 1023
	f := made(t, n+1, 1)
	name := func(i int) string { return "d" + strconv.Itoa(i%7) + "/" + strconv.Itoa(i) }
	for i := range 7 {
		mkdir(t, f, 1, "d"+strconv.Itoa(i))
	}
	made := map[int]int{}
	for i := range n - 7 {
		made[i] = file(t, f, 1, name(i))
	}
	does(t, "Mkdir", f.Mkdir(1, "one more"), api.ErrNodes)
	for i := range n - 7 {
		both(t, f, 1, name(i), made[i], api.OK)
	}
	for i := 0; i < n-7; i += 2 {
		does(t, "Unlink", f.Unlink(1, name(i)), api.OK)
	}
	for i := range n - 7 {
		if i%2 == 0 {
			both(t, f, 1, name(i), 0, api.ErrNone)
		} else {
			both(t, f, 1, name(i), made[i], api.OK)
		}
	}
	free(t, f, 508, 1)
}

// A node may have more names than there are nodes.
func TestManyNames(t *testing.T) {
	f := made(t, 2, 1)
	n := file(t, f, 1, "00000")
	want := []string{"00000"}
	for i := 1; i < 3000; i++ {
		want = append(want, fmt.Sprintf("%05d", i))
		does(t, "Link", f.Link(1, want[i-1], want[i]), api.OK)
	}
	stat(t, f, n, inodes.File, 0, 3000)
	stat(t, f, 1, inodes.Dir, 3000, 1)
	list(t, f, 1, want...)
	for i, name := range want {
		stat(t, f, n, inodes.File, 0, 3000-i)
		does(t, "Unlink", f.Unlink(1, name), api.OK)
	}
	none(t, f, n, api.ErrNone)
	free(t, f, 1, 1)
}

// As many directories within one another as there may be nodes, which no path reaches as a whole.
func TestDeep(t *testing.T) {
	f := made(t, 1024, 1)
	dir, want, path := 1, "", ""
	for range 1023 {
		dir = mkdir(t, f, dir, "d")
		path += "/d"
		want += path + "/\n"
	}
	prints(t, f, want)
	prints(t, f.Copy(), want)
	both(t, f, dir, strings.Repeat("../", 85), dir-85, api.OK)
	does(t, "Rename", f.Rename(dir, "/d", "e"), api.ErrCross)
	does(t, "Rename", f.Rename(dir, "../d", "/e"), api.OK)
	both(t, f, dir, "..", 1, api.OK)
	does(t, "Rename", f.Rename(dir, "/d", "e"), api.OK)
	both(t, f, 1, "e/e/d", 3, api.OK)
}

// The same calls of a new tree answer the same, however often (R3).
func TestAgain(t *testing.T) {
	row := func() string {
		f := some(t)
		f.Rename(1, "a/b", "e")
		f.Symlink(1, strings.Repeat("s", 200), "long")
		f.Rename(1, "e", "a/e")
		f.Unlink(1, "x")
		f.Make(1, "a/e/n")
		return shown(f, 40)
	}
	want := row()
	for range 20 {
		if now := row(); now != want {
			t.Fatalf("%s; want %s", now, want)
		}
	}
}
