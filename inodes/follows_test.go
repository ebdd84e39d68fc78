package inodes_test

import (
	"bytes"
	"math/rand"
	"slices"
	"strconv"
	"strings"
	"testing"

	"conch/api"
	"conch/inodes"
)

// P12.6, and all of the promises at once, against nodes whose every byte stands in a list.

// plain is a node: all the bytes that it may have, and which of its parts have a block.
type plain struct {
	kind, names, users, size int
	data                     [top]byte
	has                      [api.MaxFile]bool
}

// model is what a table is to tell: nodes by their numbers, nil where there is none, and how many blocks there are.
type model struct {
	nodes  []*plain
	blocks int
}

func newModel(nodes, blocks int) *model { return &model{make([]*plain, nodes), blocks} }

func (m *model) find(i int) *plain {
	if i < 1 || i > len(m.nodes) {
		return nil
	}
	return m.nodes[i-1]
}

// free counts what no node has.
func (m *model) free() (int, int) {
	nodes, blocks := 0, m.blocks
	for _, n := range m.nodes {
		if n == nil {
			nodes++
			continue
		}
		for _, has := range n.has {
			if has {
				blocks--
			}
		}
	}
	return nodes, blocks
}

func (m *model) make(kind int) (int, api.Errno) {
	if !slices.Contains([]int{1, 2, 3}, kind) {
		return 0, api.ErrArg
	}
	for i, n := range m.nodes {
		if n == nil {
			m.nodes[i] = &plain{kind: kind}
			return i + 1, api.OK
		}
	}
	return 0, api.ErrNodes
}

// count adds to the names or the users of a node; -1 takes one away.
func (m *model) count(i, names, users int) api.Errno {
	n := m.find(i)
	if n == nil || n.names+names < 0 || n.users+users < 0 {
		return api.ErrNone
	}
	n.names += names
	n.users += users
	if names+users < 0 && n.names == 0 && n.users == 0 {
		m.nodes[i-1] = nil
	}
	return api.OK
}

func (m *model) write(i, at int, data string) (int, api.Errno) {
	n := m.find(i)
	switch {
	case n == nil:
		return 0, api.ErrNone
	case at < 0:
		return 0, api.ErrArg
	}
	done := 0
	for done < len(data) {
		place := at + done
		if place >= top {
			if done == 0 {
				return 0, api.ErrBig
			}
			break
		}
		if _, left := m.free(); !n.has[place/part] && left == 0 {
			if done == 0 {
				return 0, api.ErrSpace
			}
			break
		}
		n.has[place/part] = true
		n.data[place] = data[done]
		n.size = max(n.size, place+1)
		done++
	}
	return done, api.OK
}

func (m *model) cut(i, size int) api.Errno {
	n := m.find(i)
	switch {
	case n == nil:
		return api.ErrNone
	case size < 0:
		return api.ErrArg
	case size > top:
		return api.ErrBig
	}
	n.size = size
	for at := size; at < top; at++ {
		n.data[at] = 0
		if at%part == 0 {
			n.has[at/part] = false
		}
	}
	return api.OK
}

func (m *model) copied() *model {
	c := newModel(len(m.nodes), m.blocks)
	for i, n := range m.nodes {
		if n != nil {
			of := *n
			c.nodes[i] = &of
		}
	}
	return c
}

// shown is what the table is to be shown as.
func (m *model) shown() string {
	var out strings.Builder
	for i := 0; i <= len(m.nodes)+1; i++ {
		if n := m.find(i); n != nil {
			out.WriteString(one(i, n.kind, n.names, string(n.data[:n.size])))
		} else {
			out.WriteString(one(i, 0, 0, ""))
		}
	}
	n, b := m.free()
	out.WriteString(strconv.Itoa(n) + " " + strconv.Itoa(b))
	return out.String()
}

// pair is a table and what it is to tell.
type pair struct {
	x *inodes.Table
	m *model
}

func newPair(t *testing.T, nodes, blocks int) pair {
	return pair{made(t, nodes, blocks), newModel(nodes, blocks)}
}

func (p pair) copied() pair { return pair{p.x.Copy(), p.m.copied()} }

func (p pair) check(t *testing.T, did string) {
	t.Helper()
	if now, want := shown(t, p.x, len(p.m.nodes)), p.m.shown(); now != want {
		t.Fatalf("%s: %s; want %s", did, now, want)
	}
}

func (p pair) make(t *testing.T, kind int) {
	t.Helper()
	i, e := p.m.make(kind)
	node(t, p.x, kind, i, e)
}

func (p pair) count(t *testing.T, i, names, users int) {
	t.Helper()
	want := p.m.count(i, names, users)
	switch {
	case names > 0:
		does(t, "Tie", p.x.Tie(i), want)
	case names < 0:
		does(t, "Untie", p.x.Untie(i), want)
	case users > 0:
		does(t, "Hold", p.x.Hold(i), want)
	default:
		does(t, "Loose", p.x.Loose(i), want)
	}
}

func (p pair) write(t *testing.T, i, at int, data string) {
	t.Helper()
	n, e := p.m.write(i, at, data)
	write(t, p.x, i, at, data, n, e)
}

func (p pair) cut(t *testing.T, i, size int) {
	t.Helper()
	cut(t, p.x, i, size, p.m.cut(i, size))
}

// steps are calls of two nodes that change a table, or are refused.
func steps() map[string]func(t *testing.T, p pair) {
	out := map[string]func(t *testing.T, p pair){
		"make": func(t *testing.T, p pair) { p.make(t, inodes.File) },
	}
	for i := 1; i <= 2; i++ {
		name := " " + strconv.Itoa(i)
		out["tie"+name] = func(t *testing.T, p pair) { p.count(t, i, 1, 0) }
		out["untie"+name] = func(t *testing.T, p pair) { p.count(t, i, -1, 0) }
		out["hold"+name] = func(t *testing.T, p pair) { p.count(t, i, 0, 1) }
		out["loose"+name] = func(t *testing.T, p pair) { p.count(t, i, 0, -1) }
		out["write"+name] = func(t *testing.T, p pair) { p.write(t, i, 62, "wxyz"+name) }
		out["cut"+name] = func(t *testing.T, p pair) { p.cut(t, i, 63) }
		out["grow"+name] = func(t *testing.T, p pair) { p.cut(t, i, 70) }
	}
	return out
}

// Each row of calls, one behind the other, of a table of two nodes and two blocks; a copy of it at each place of the row stays as it is there.
func TestRows(t *testing.T) {
	all := steps()
	names := make([]string, 0, len(all))
	for name := range all {
		names = append(names, name)
	}
	slices.Sort(names)
	var walk func(p pair, did string, left int)
	walk = func(p pair, did string, left int) {
		if left == 0 {
			return
		}
		for _, name := range names {
			next := p.copied()
			all[name](t, next)
			next.check(t, did+"; "+name)
			walk(next, did+"; "+name, left-1)
		}
		p.check(t, did+", with all that its copies did")
	}
	p := newPair(t, 2, 2)
	walk(p, "new", 2)
	p.make(t, inodes.Dir)
	p.make(t, inodes.Link)
	p.count(t, 1, 1, 0)
	walk(p, "two", 3)
	p.write(t, 1, 63, "12")
	p.count(t, 2, 0, 1)
	walk(p, "written", 3)
}

// Long rows by a fixed seed, over several tables that are copies of one another.
func TestLongRows(t *testing.T) {
	r := rand.New(rand.NewSource(12))
	for _, c := range []struct{ nodes, blocks, far int }{{1, 1, 130}, {2, 3, 200}, {3, 5, 400}, {5, 20, 1000}, {4, 200, top}} {
		all := []pair{newPair(t, c.nodes, c.blocks)}
		for range 1200 {
			p := all[r.Intn(len(all))]
			i, at := r.Intn(c.nodes+2), r.Intn(c.far+20)-10
			switch k := r.Intn(16); {
			case k < 3:
				p.make(t, r.Intn(5))
			case k < 5:
				p.count(t, i, 1, 0)
			case k < 6:
				p.count(t, i, 0, 1)
			case k < 8:
				p.count(t, i, -1, 0)
			case k < 9:
				p.count(t, i, 0, -1)
			case k < 12:
				p.write(t, i, at, strings.Repeat(string([]byte{byte(1 + r.Intn(255))}), r.Intn(c.far/2)))
			case k < 14:
				p.cut(t, i, at)
			case k < 15 && len(all) < 3:
				all = append(all, p.copied())
			default:
				all[r.Intn(len(all))] = p.copied()
			}
			for _, p := range all {
				p.check(t, "a long row")
			}
		}
	}
}

// What was written is read, in as many nodes as there may be; no other one changes by it.
func TestNoOtherNode(t *testing.T) {
	const n = 1024
	x := files(t, n, 4096, n)
	text := func(i int) string {
		return string(bytes.Repeat([]byte{byte(i), byte(i >> 8)}, 128))
	}
	for i := 1; i <= n; i++ {
		write(t, x, i, 0, text(i), 256, api.OK)
	}
	free(t, x, 0, 0)
	for i := n; i >= 1; i-- {
		has(t, x, i, text(i))
	}
	for i := 2; i <= n; i += 2 {
		does(t, "Untie", x.Untie(i), api.OK)
	}
	free(t, x, n/2, 2048)
	for i := 1; i <= n; i += 2 {
		has(t, x, i, text(i))
	}
	for i := 2; i <= n; i += 2 {
		node(t, x, inodes.File, i, api.OK)
		cut(t, x, i, 256, api.OK)
		has(t, x, i, zeros(256))
	}
	free(t, x, 0, 2048)
}

// Blocks that a node gave back are another's, as often as one likes.
func TestBlocksComeBack(t *testing.T) {
	x := made(t, 2, 64)
	for round := range 50 {
		node(t, x, inodes.File, 1, api.OK)
		does(t, "Hold", x.Hold(1), api.OK)
		write(t, x, 1, 0, strings.Repeat(string(rune('a'+round%26)), top), top, api.OK)
		free(t, x, 1, 0)
		does(t, "Tie", x.Tie(1), api.OK)
		does(t, "Loose", x.Loose(1), api.OK)
		free(t, x, 1, 0)
		does(t, "Untie", x.Untie(1), api.OK)
		free(t, x, 2, 64)
	}
}

// The same calls of a new table answer the same, however often (R3).
func TestAgain(t *testing.T) {
	row := func() string {
		x := files(t, 3, 40, 3)
		x.Write(1, 30, strings.Repeat("a", 1500))
		x.Write(2, 300, strings.Repeat("b", 700))
		x.Untie(1)
		x.Write(3, 0, strings.Repeat("c", 3000))
		x.Cut(3, 1000)
		x.Write(2, 0, strings.Repeat("d", 3000))
		return shown(t, x, 3)
	}
	want := row()
	for range 20 {
		if now := row(); now != want {
			t.Fatalf("%s; want %s", now, want)
		}
	}
}
