package names_test

import (
	"fmt"
	"slices"
	"sort"
	"strings"

	"conch/api"
	"conch/inodes"
	"conch/names"
)

// model is what a tree is to tell, done plainly: how often a name leads to a node is counted anew each time,
// and a walk lays what a link says ahead of what is left of the path.
type model struct {
	things []*thing // by their numbers less 1; nil where there is none
	blocks int
}

// thing is a node.
type thing struct {
	kind, users int
	parent      *thing  // of a directory; itself, not its number, which may be another one's later
	names       []entry // of a directory, in whatever order they came
	data        []byte
	has         [api.MaxFile]bool // which parts have a block
}

type entry struct {
	name string
	node int
}

func newModel(nodes, blocks int) *model {
	m := &model{things: make([]*thing, nodes), blocks: blocks}
	m.things[0] = &thing{kind: inodes.Dir}
	m.things[0].parent = m.things[0]
	return m
}

func (m *model) copied() *model {
	c := &model{things: make([]*thing, len(m.things)), blocks: m.blocks}
	for i, x := range m.things {
		if x != nil {
			of := *x
			of.names, of.data = slices.Clone(x.names), slices.Clone(x.data)
			c.things[i] = &of
		}
	}
	for _, x := range c.things {
		if x != nil && m.number(x.parent) > 0 {
			x.parent = c.of(m.number(x.parent))
		}
	}
	return c
}

// number is a thing's number; 0 of one that is no more.
func (m *model) number(x *thing) int {
	for i, y := range m.things {
		if x != nil && x == y {
			return i + 1
		}
	}
	return 0
}

func (m *model) of(i int) *thing {
	if i < 1 || i > len(m.things) {
		return nil
	}
	return m.things[i-1]
}

func (m *model) kind(i int) int {
	if x := m.of(i); x != nil {
		return x.kind
	}
	return 0
}

// links counts the names that lead to a node; the root has one more.
func (m *model) links(i int) int {
	n := 0
	if i == 1 {
		n++
	}
	for _, x := range m.things {
		if x != nil {
			for _, y := range x.names {
				if y.node == i {
					n++
				}
			}
		}
	}
	return n
}

// sweep ends a node without names and users.
func (m *model) sweep(i int) {
	if m.links(i) == 0 && m.of(i).users == 0 {
		m.things[i-1] = nil
	}
}

func (m *model) free() (int, int) {
	nodes, blocks := 0, m.blocks
	for _, x := range m.things {
		if x == nil {
			nodes++
			continue
		}
		for _, has := range x.has {
			if has {
				blocks--
			}
		}
	}
	return nodes, blocks
}

// lookup is the node of a name in a directory; 0 of none.
func (m *model) lookup(dir int, name string) int {
	for _, y := range m.of(dir).names {
		if y.name == name {
			return y.node
		}
	}
	return 0
}

func (m *model) drop(dir int, name string) {
	x := m.of(dir)
	x.names = slices.DeleteFunc(x.names, func(y entry) bool { return y.name == name })
}

func (m *model) walk(dir int, path string, follow bool) (int, api.Errno) {
	switch {
	case m.kind(dir) != inodes.Dir:
		return 0, api.ErrNoDir
	case path == "":
		return 0, api.ErrNone
	case len(path) > 256:
		return 0, api.ErrBig
	}
	at, left, followed := dir, strings.Split(path, "/"), 0
	if path[0] == '/' {
		at = 1
	}
	for len(left) > 0 {
		part := left[0]
		left = left[1:]
		if m.kind(at) != inodes.Dir {
			return 0, api.ErrNoDir
		}
		if part == "" || part == "." {
			continue
		}
		if part == ".." {
			if at = m.number(m.of(at).parent); at == 0 {
				return 0, api.ErrNoDir
			}
			continue
		}
		if len(part) > 32 {
			return 0, api.ErrBig
		}
		next := m.lookup(at, part)
		if next == 0 {
			return 0, api.ErrNone
		}
		if m.kind(next) == inodes.Link && (follow || len(left) > 0) {
			if followed == 8 {
				return 0, api.ErrLoop
			}
			followed++
			text := string(m.of(next).data)
			if text[0] == '/' {
				at = 1
			}
			left = append(strings.Split(text, "/"), left...)
			continue
		}
		at = next
	}
	return at, api.OK
}

func (m *model) place(dir int, path string) (int, string, api.Errno) {
	if m.kind(dir) != inodes.Dir {
		return 0, "", api.ErrNoDir
	}
	if path == "" {
		return 0, "", api.ErrNone
	}
	short := path
	for strings.HasSuffix(short, "/") {
		short = short[:len(short)-1]
	}
	parts := strings.Split(short, "/")
	last := parts[len(parts)-1]
	if short == "" || last == "." || last == ".." {
		return 0, "", api.ErrArg
	}
	if len(path) > 256 || len(last) > 32 {
		return 0, "", api.ErrBig
	}
	if len(parts) == 1 {
		return dir, last, api.OK
	}
	ahead := strings.Join(parts[:len(parts)-1], "/")
	if ahead == "" {
		return 1, last, api.OK
	}
	at, e := m.walk(dir, ahead, true)
	if e != api.OK {
		return 0, "", e
	}
	if m.kind(at) != inodes.Dir {
		return 0, "", api.ErrNoDir
	}
	return at, last, api.OK
}

// fresh is a place where a name may be made.
func (m *model) fresh(dir int, path string) (int, string, api.Errno) {
	at, name, e := m.place(dir, path)
	switch {
	case e != api.OK:
		return 0, "", e
	case m.lookup(at, name) != 0:
		return 0, "", api.ErrThere
	case m.links(at) == 0:
		return 0, "", api.ErrNone
	}
	return at, name, api.OK
}

func (m *model) add(dir int, path string, kind int, text string) (int, api.Errno) {
	at, name, e := m.fresh(dir, path)
	if e != api.OK {
		return 0, e
	}
	i := slices.Index(m.things, nil)
	if i < 0 {
		return 0, api.ErrNodes
	}
	x := &thing{kind: kind, parent: m.of(at), data: []byte(text)}
	need := (len(text) + 63) / 64
	if _, blocks := m.free(); need > blocks {
		return 0, api.ErrSpace
	}
	for p := range need {
		x.has[p] = true
	}
	m.things[i] = x
	m.of(at).names = append(m.of(at).names, entry{name, i + 1})
	return i + 1, api.OK
}

func (m *model) symlink(dir int, text, path string) api.Errno {
	switch {
	case m.kind(dir) != inodes.Dir:
		return api.ErrNoDir
	case text == "":
		return api.ErrArg
	case len(text) > 256:
		return api.ErrBig
	}
	_, e := m.add(dir, path, inodes.Link, text)
	return e
}

func (m *model) link(dir int, from, to string) api.Errno {
	n, e := m.walk(dir, from, false)
	if e != api.OK {
		return e
	}
	if m.kind(n) == inodes.Dir {
		return api.ErrDir
	}
	at, name, e := m.fresh(dir, to)
	if e != api.OK {
		return e
	}
	m.of(at).names = append(m.of(at).names, entry{name, n})
	return api.OK
}

// remove is Unlink, or Rmdir of directories.
func (m *model) remove(dir int, path string, directories bool) api.Errno {
	at, name, e := m.place(dir, path)
	if e != api.OK {
		return e
	}
	n := m.lookup(at, name)
	switch is := m.kind(n) == inodes.Dir; {
	case n == 0:
		return api.ErrNone
	case is && !directories:
		return api.ErrDir
	case !is && directories:
		return api.ErrNoDir
	case is && len(m.of(n).names) > 0:
		return api.ErrFull
	}
	m.drop(at, name)
	m.sweep(n)
	return api.OK
}

// contains says whether a node is another one, or can be reached from it by names.
func (m *model) contains(from, to int) bool {
	return from == to || slices.ContainsFunc(m.of(from).names, func(y entry) bool { return m.contains(y.node, to) })
}

func (m *model) rename(dir int, from, to string) api.Errno {
	at, name, e := m.place(dir, from)
	if e != api.OK {
		return e
	}
	at2, name2, e := m.place(dir, to)
	if e != api.OK {
		return e
	}
	n := m.lookup(at, name)
	if n == 0 || m.links(at2) == 0 {
		return api.ErrNone
	}
	n2 := m.lookup(at2, name2)
	is, is2 := m.kind(n) == inodes.Dir, m.kind(n2) == inodes.Dir
	switch {
	case n == n2:
		return api.OK
	case is && m.contains(n, at2):
		return api.ErrCross
	case n2 != 0 && is && !is2:
		return api.ErrNoDir
	case n2 != 0 && !is && is2:
		return api.ErrDir
	case n2 != 0 && is && len(m.of(n2).names) > 0:
		return api.ErrFull
	}
	if n2 != 0 {
		m.drop(at2, name2)
		m.sweep(n2)
	}
	m.drop(at, name)
	m.of(at2).names = append(m.of(at2).names, entry{name2, n})
	if is {
		m.of(n).parent = m.of(at2)
	}
	return api.OK
}

func (m *model) use(i, more int) api.Errno {
	x := m.of(i)
	if x == nil || x.users+more < 0 {
		return api.ErrNone
	}
	x.users += more
	if more < 0 {
		m.sweep(i)
	}
	return api.OK
}

// bytesOf is why a node's bytes may not be had.
func (m *model) bytesOf(i int) api.Errno {
	return []api.Errno{api.ErrNone, api.OK, api.ErrDir, api.ErrArg}[m.kind(i)]
}

func (m *model) write(i, at int, data string) (int, api.Errno) {
	if e := m.bytesOf(i); e != api.OK {
		return 0, e
	}
	if at < 0 {
		return 0, api.ErrArg
	}
	x := m.of(i)
	for done := range len(data) {
		p := at + done
		e := api.OK
		if p >= top {
			e = api.ErrBig
		} else if _, blocks := m.free(); !x.has[p/64] && blocks == 0 {
			e = api.ErrSpace
		}
		if e != api.OK && done == 0 {
			return 0, e
		}
		if e != api.OK {
			return done, api.OK
		}
		x.has[p/64] = true
		if p >= len(x.data) {
			x.data = append(x.data, make([]byte, p+1-len(x.data))...)
		}
		x.data[p] = data[done]
	}
	return len(data), api.OK
}

func (m *model) cut(i, size int) api.Errno {
	if e := m.bytesOf(i); e != api.OK {
		return e
	}
	if size < 0 {
		return api.ErrArg
	}
	if size > top {
		return api.ErrBig
	}
	x := m.of(i)
	x.data = append(x.data, make([]byte, top)...)[:size:size]
	for p := (size + 63) / 64; p < len(x.has); p++ {
		x.has[p] = false
	}
	return api.OK
}

// print is all paths with what stands there, each under a key by which parts are sorted, sorted as a whole.
func (m *model) print() string {
	type line struct{ key, text string }
	var lines []line
	var down func(dir int, key, path string)
	down = func(dir int, key, path string) {
		for _, y := range m.of(dir).names {
			x, p := m.of(y.node), path+"/"+y.name
			// Two bytes a byte, so that what stands ahead of a part is less than all of its bytes.
			k := key + "\x00"
			for _, b := range []byte(y.name) {
				k += "\x01" + string([]byte{b})
			}
			switch x.kind {
			case inodes.Dir:
				lines = append(lines, line{k, p + "/\n"})
				down(y.node, k, p)
			case inodes.Link:
				lines = append(lines, line{k, p + " -> " + string(x.data) + "\n"})
			default:
				lines = append(lines, line{k, fmt.Sprintf("%s %d\n%s\n", p, len(x.data), x.data)})
			}
		}
	}
	down(1, "", "")
	sort.Slice(lines, func(i, j int) bool { return lines[i].key < lines[j].key })
	var out strings.Builder
	for _, l := range lines {
		out.WriteString(l.text)
	}
	return out.String()
}

// shown is what a tree of these is to be shown as.
func (m *model) shown() string {
	var out strings.Builder
	for i := 0; i <= len(m.things)+1; i++ {
		x := m.of(i)
		if x == nil {
			fmt.Fprintf(&out, "%d: %d, %v, 0 users\n", i, int(api.ErrNone), names.Info{})
			continue
		}
		info := names.Info{Kind: x.kind, Size: len(x.data) + len(x.names), Links: m.links(i)}
		fmt.Fprintf(&out, "%d: 0, %v, %d users", i, info, x.users)
		switch x.kind {
		case inodes.File:
			fmt.Fprintf(&out, ", %q, 0", x.data)
		case inodes.Link:
			fmt.Fprintf(&out, ", says %q, 0", x.data)
		case inodes.Dir:
			up, e := m.walk(i, "..", true)
			fmt.Fprintf(&out, ", in %d, %d", up, int(e))
			l := slices.Clone(x.names)
			sort.Slice(l, func(i, j int) bool { return l[i].name < l[j].name })
			for _, y := range l {
				fmt.Fprintf(&out, ", %q %d, 0", y.name, y.node)
			}
		}
		out.WriteString("\n")
	}
	n, b := m.free()
	fmt.Fprintf(&out, "free %d, %d\n", n, b)
	return out.String() + m.print()
}
