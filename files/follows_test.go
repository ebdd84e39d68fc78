package files_test

import (
	"fmt"
	"math/rand"
	"slices"
	"strings"
	"testing"

	"conch/api"
	"conch/files"
	"conch/inodes"
	"conch/names"
)

// P14.3, and all of the promises at once, against a model.

// What is written piece by piece is read piece by piece, whatever the pieces.
func TestPieces(t *testing.T) {
	text := strings.Repeat("what is written to one is read of another; ", 7)
	for _, flags := range []int{w, w | a} {
		for one := 1; one < 140; one += 3 {
			for other := 1; other < 140; other += 7 {
				f := made(t, 2, 9)
				o, p, q := open(t, f, "f", flags|c), open(t, f, "f", r), open(t, f, "f", r)
				got := ""
				for done := 0; done < len(text); {
					piece := text[done:min(len(text), done+one)]
					done += len(piece)
					writes(t, o, piece, len(piece), done)
					for len(got)+other <= done {
						reads(t, p, other, text[len(got):len(got)+other])
						got += text[len(got) : len(got)+other]
					}
				}
				reads(t, p, most, text[len(got):])
				for left := text; left != ""; {
					piece := left[:min(len(left), other)]
					reads(t, q, other, piece)
					left = left[len(piece):]
				}
			}
		}
	}
}

// A node whose names are gone is there till it is closed; then it and its blocks are free again.
func TestNamesGone(t *testing.T) {
	f := made(t, 4, 4)
	o := open(t, f, "f", r|w|c)
	n := o.Node()
	does(t, "Link", f.Link(1, "f", "g"), api.OK)
	p := open(t, f, "g", r)
	writes(t, o, strings.Repeat("a", 100), 100, 100)
	does(t, "Unlink", f.Unlink(1, "f"), api.OK)
	does(t, "Unlink", f.Unlink(1, "g"), api.OK)
	free(t, f, 2, 2)
	refused(t, f, 1, "f", r, api.ErrNone)
	reads(t, p, 64, strings.Repeat("a", 64))
	writes(t, o, strings.Repeat("b", 100), 100, 200)
	reads(t, p, 40, strings.Repeat("a", 36)+"bbbb")
	free(t, f, 2, 0)
	// What gets the name then is another one.
	q := open(t, f, "f", w|c)
	if q.Node() == n {
		t.Fatalf("%d twice", n)
	}
	noWrite(t, f, q, "c", api.ErrSpace)
	free(t, f, 1, 0)
	does(t, "Close", o.Close(), api.OK)
	free(t, f, 1, 0)
	reads(t, p, 2, "bb")
	does(t, "Close", p.Close(), api.OK)
	free(t, f, 2, 4)
	does(t, "Close", p.Close(), api.ErrFd)
	free(t, f, 2, 4)
	writes(t, q, "c", 1, 1)
	does(t, "Close", q.Close(), api.OK)
	free(t, f, 2, 3)
}

// A name that was taken over, by a Rename, leaves what is open there.
func TestRenamedOver(t *testing.T) {
	f := some(t)
	o := open(t, f, "f", r)
	does(t, "Rename", f.Rename(1, "d/g", "f"), api.OK)
	p := open(t, f, "to", r)
	reads(t, o, 9, "old")
	reads(t, p, 9, "deep")
	free(t, f, 10, 12)
	does(t, "Close", o.Close(), api.OK)
	free(t, f, 11, 13)
	closed(t, f, o)
}

// Many at once, which are closed in another order.
func TestMany(t *testing.T) {
	f := made(t, 1024, 1)
	var all []*files.File
	for i := range 1023 {
		all = append(all, open(t, f, fmt.Sprint(i), w|c))
		does(t, "Unlink", f.Unlink(1, fmt.Sprint(i)), api.OK)
	}
	free(t, f, 0, 1)
	refused(t, f, 1, "more", w|c, api.ErrNodes)
	for i := range all {
		o := all[i*7%1023]
		writes(t, o, "a", 1, 1)
		free(t, f, i, 0)
		does(t, "Close", o.Close(), api.OK)
		free(t, f, i+1, 1)
	}
}

// thing is what a node is to be, done plainly.
type thing struct {
	data         []byte
	blocks       [api.MaxFile]bool
	names, users int
}

// user is what an open file is to be.
type user struct {
	of     *thing
	number int
	at     int
	flags  int
	closed bool
}

// model is a root with files, and what is open of them. Beside the files there are /d/ 2 and /l -> a 3.
type model struct {
	things []*thing // by their numbers less 4; nil where there is none
	names  map[string]*thing
	free   int
	users  []*user
}

func (m *model) number(x *thing) int { return slices.Index(m.things, x) + 4 }

func (m *model) open(path string, flags int) (*user, api.Errno) {
	if path == "l" && m.names["a"] != nil {
		path = "a"
	}
	on := m.names[path]
	switch {
	case flags&3 == 0 || flags < 0 || flags > 63:
		return nil, api.ErrArg
	case on == nil && path == "l", on == nil && path != "d" && flags&8 == 0:
		return nil, api.ErrNone
	case (on != nil || path == "d") && flags&40 == 40:
		return nil, api.ErrThere
	case path == "d":
		return nil, api.ErrDir
	case on == nil:
		i := slices.Index(m.things, nil)
		if i < 0 {
			return nil, api.ErrNodes
		}
		on = &thing{names: 1}
		m.things[i], m.names[path] = on, on
	case flags&18 == 18:
		m.cut(on, 0)
	}
	on.users++
	u := &user{of: on, number: m.number(on), flags: flags}
	m.users = append(m.users, u)
	return u, api.OK
}

func (m *model) read(u *user, n int) (string, api.Errno) {
	switch {
	case u.closed:
		return "", api.ErrFd
	case u.flags&1 == 0:
		return "", api.ErrMode
	case n < 0:
		return "", api.ErrArg
	}
	from := min(u.at, len(u.of.data))
	to := from + min(n, len(u.of.data)-from)
	u.at = max(u.at, to)
	return string(u.of.data[from:to]), api.OK
}

func (m *model) write(u *user, data string) (int, api.Errno) {
	switch {
	case u.closed:
		return 0, api.ErrFd
	case u.flags&2 == 0:
		return 0, api.ErrMode
	}
	x := u.of
	if u.flags&4 != 0 {
		u.at = len(x.data)
	}
	from := u.at
	for i := range len(data) {
		p, e := from+i, api.OK
		if p >= top {
			e = api.ErrBig
		} else if !x.blocks[p/64] && m.free == 0 {
			e = api.ErrSpace
		}
		if e != api.OK && i == 0 {
			return 0, e
		}
		if e != api.OK {
			u.at = p
			return i, api.OK
		}
		if !x.blocks[p/64] {
			x.blocks[p/64] = true
			m.free--
		}
		if p >= len(x.data) {
			x.data = append(x.data, make([]byte, p+1-len(x.data))...)
		}
		x.data[p] = data[i]
	}
	u.at = from + len(data)
	return len(data), api.OK
}

func (m *model) close(u *user) api.Errno {
	if u.closed {
		return api.ErrFd
	}
	u.closed = true
	u.of.users--
	m.sweep(u.of)
	return api.OK
}

func (m *model) cut(x *thing, size int) {
	x.data = append(x.data, make([]byte, top)...)[:size:size]
	for p := (size + 63) / 64; p < len(x.blocks); p++ {
		if x.blocks[p] {
			x.blocks[p] = false
			m.free++
		}
	}
}

func (m *model) link(from, to string) {
	if m.names[from] != nil && m.names[to] == nil {
		m.names[to] = m.names[from]
		m.names[to].names++
	}
}

func (m *model) unlink(name string) {
	if on := m.names[name]; on != nil {
		delete(m.names, name)
		on.names--
		m.sweep(on)
	}
}

// sweep ends a node that has neither names nor users.
func (m *model) sweep(x *thing) {
	if x.names == 0 && x.users == 0 {
		m.cut(x, 0)
		m.things[m.number(x)-4] = nil
	}
}

// pair is a tree and its open files, and what they are to tell.
type pair struct {
	f   *names.FS
	all []*files.File
	m   *model
}

func newPair(t *testing.T, nodes, blocks int) *pair {
	p := &pair{made(t, nodes+3, blocks+1), nil, &model{make([]*thing, nodes), map[string]*thing{}, blocks, nil}}
	does(t, "Mkdir", p.f.Mkdir(1, "d"), api.OK)
	does(t, "Symlink", p.f.Symlink(1, "a", "l"), api.OK)
	return p
}

// check holds all that the tree and its open files tell.
func (p *pair) check(t *testing.T, did func() string) {
	t.Helper()
	for i, x := range p.m.things {
		info, _ := p.f.Stat(i + 4)
		data, _ := p.f.Read(i+4, 0, most)
		switch {
		case x == nil && info != names.Info{}:
			t.Fatalf("%s: %d is there", did(), i+4)
		case x != nil && (info != names.Info{Kind: inodes.File, Size: len(x.data), Links: x.names} || data != string(x.data) || users(p.f, i+4) != x.users):
			t.Fatalf("%s: %d: %v, %d users, %q; want %d names, %d users, %q", did(), i+4, info, users(p.f, i+4), data, x.names, x.users, x.data)
		}
	}
	nodes := 0
	for _, x := range p.m.things {
		if x == nil {
			nodes++
		}
	}
	if n, b := p.f.Free(); n != nodes || b != p.m.free {
		t.Fatalf("%s: free %d, %d; want %d, %d", did(), n, b, nodes, p.m.free)
	}
	for _, name := range []string{"a", "b", "c"} {
		n, e := p.f.Walk(1, name, true)
		if on := p.m.names[name]; on == nil && e != api.ErrNone || on != nil && n != p.m.number(on) {
			t.Fatalf("%s: %s leads to %d, %d", did(), name, n, int(e))
		}
	}
	for i, u := range p.m.users {
		if o := p.all[i]; o.At() != u.at || o.Node() != u.number {
			t.Fatalf("%s: file %d: at %d of %d; want %d of %d", did(), i, o.At(), o.Node(), u.at, u.number)
		}
	}
}

// call is a call of a tree, or of one of its open files.
type call struct {
	name  string
	path  string // or another name, or bytes
	other string
	n     int // or flags
	file  int // which open file it is of, less than there are
}

func (c call) String() string {
	return fmt.Sprintf("%s(%.80q, %.80q, %d) of %d", c.name, c.path, c.other, c.n, c.file)
}

// do has both do a call, and holds their answers against each other.
func (p *pair) do(t *testing.T, did func() string, c call) {
	t.Helper()
	var got, want string
	answer := func(of any, e api.Errno) string { return fmt.Sprintf("%.300q, %d", fmt.Sprint(of), int(e)) }
	if slices.Contains([]string{"Read", "Write", "Close"}, c.name) && c.file >= len(p.all) {
		return
	}
	switch c.name {
	case "Open":
		o, e := files.Open(p.f, 1, c.path, c.n)
		u, wrong := p.m.open(c.path, c.n)
		got, want = answer(o != nil, e), answer(u != nil, wrong)
		if o != nil {
			p.all = append(p.all, o)
		}
	case "Read":
		data, e := p.all[c.file].Read(c.n)
		text, wrong := p.m.read(p.m.users[c.file], c.n)
		got, want = answer(data, e), answer(text, wrong)
	case "Write":
		n, e := p.all[c.file].Write(c.path)
		done, wrong := p.m.write(p.m.users[c.file], c.path)
		got, want = answer(n, e), answer(done, wrong)
	case "Close":
		got, want = answer("", p.all[c.file].Close()), answer("", p.m.close(p.m.users[c.file]))
	case "Unlink":
		p.f.Unlink(1, c.path)
		p.m.unlink(c.path)
	case "Link":
		p.f.Link(1, c.path, c.other)
		p.m.link(c.path, c.other)
	case "Cut":
		p.f.Cut(c.file+4, c.n)
		if c.file < len(p.m.things) && p.m.things[c.file] != nil {
			p.m.cut(p.m.things[c.file], c.n)
		}
	}
	if got != want {
		t.Fatalf("%s: %s; want %s", did(), got, want)
	}
}

// Each row of five of these calls, of a tree of two nodes and two blocks beside what is there.
func TestRows(t *testing.T) {
	long := strings.Repeat("w", 100)
	all := []call{
		{name: "Open", path: "a", n: r | w | c},
		{name: "Open", path: "a", n: r | w | a},
		{name: "Open", path: "l", n: w | tr | c},
		{name: "Open", path: "b", n: w | c | x},
		{name: "Write", path: long},
		{name: "Write", path: "one", file: 1},
		{name: "Read", n: 5},
		{name: "Read", n: 70, file: 1},
		{name: "Unlink", path: "a"},
		{name: "Cut", n: 2},
		{name: "Close"},
		{name: "Close", file: 1},
	}
	const steps = 5
	count := 1
	for range steps {
		count *= len(all)
	}
	for row := range count {
		p, left, did := newPair(t, 2, 2), row, []call{}
		told := func() string { return fmt.Sprint(did) }
		for range steps {
			did = append(did, all[left%len(all)])
			p.do(t, told, all[left%len(all)])
			left /= len(all)
		}
		p.check(t, told)
	}
}

// anyCall is a call whose arguments are mostly right.
func anyCall(by *rand.Rand, p *pair) call {
	do := call{n: by.Intn(150) - 3, other: string("abc"[by.Intn(3)]), path: string("aabbcdl"[by.Intn(7)])}
	do.name = []string{"Open", "Open", "Read", "Read", "Read", "Write", "Write", "Write", "Close", "Unlink", "Link", "Cut"}[by.Intn(12)]
	switch do.name {
	case "Open":
		do.n = []int{r, w, r | w}[by.Intn(3)] | by.Intn(16)<<2
		if by.Intn(4) > 0 {
			do.n &^= x
		}
		if by.Intn(20) == 0 {
			do.n = by.Intn(140) - 70
		}
	case "Write":
		do.path = strings.Repeat(string([]byte{byte(by.Intn(256))}), by.Intn(90))
		if by.Intn(40) == 0 {
			do.path = strings.Repeat("big", by.Intn(1500))
		}
	case "Unlink", "Link":
		do.path = string("abc"[by.Intn(3)])
	case "Cut":
		do.file, do.n = by.Intn(len(p.m.things)), by.Intn(200)
		return do
	}
	// Mostly one of the last ones, which may be open still.
	if n := len(p.all); n > 0 {
		do.file = max(0, n-1-by.Intn(8))
	}
	return do
}

// Long rows by a fixed seed.
func TestLongRows(t *testing.T) {
	by := rand.New(rand.NewSource(14))
	for _, c := range []struct{ nodes, blocks int }{{1, 1}, {2, 2}, {3, 1}, {3, 6}, {4, 20}, {3, 150}} {
		p := newPair(t, c.nodes, c.blocks)
		for range 4000 {
			step := anyCall(by, p)
			p.do(t, step.String, step)
			p.check(t, step.String)
		}
		for _, u := range p.all {
			u.Close()
		}
		for _, name := range []string{"a", "b", "c"} {
			p.f.Unlink(1, name)
		}
		free(t, p.f, c.nodes, c.blocks)
	}
}
