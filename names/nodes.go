package names

import (
	"maps"
	"slices"

	"conch/api"
	"conch/inodes"
)

// root is the number of the root: of a table's first node.
const root = 1

// nowhere is the parent of a directory whose parent is no more. No node has that number.
const nowhere = 0

// directory is what a node of kind Dir has beside what the table knows of it.
type directory struct {
	parent int // where it stands, or stood last, if it has no name any more; nowhere, once that is no more
	names  map[string]int
}

// place is where a name stands, or may come to stand.
type place struct {
	dir  int
	name string
}

// nodes is what a tree and a walk through it share.
type nodes struct {
	table *inodes.Table
	dirs  map[int]directory // of those nodes that are there and are directories
}

// rootAlone is the nodes of a tree that has but a root, in a table that has no node yet.
func rootAlone(table *inodes.Table) *nodes {
	n := &nodes{table: table, dirs: map[int]directory{}}
	n.table.Make(inodes.Dir)
	n.table.Tie(root)
	n.open(root, root)
	return n
}

// copied is nodes that have the same, and share nothing with these.
func (n *nodes) copied() *nodes {
	c := &nodes{table: n.table.Copy(), dirs: make(map[int]directory, len(n.dirs))}
	for node, d := range n.dirs {
		c.dirs[node] = directory{parent: d.parent, names: maps.Clone(d.names)}
	}
	return c
}

// isDir says whether there is a node, and it is a directory.
func (n *nodes) isDir(node int) bool {
	return n.table.Kind(node) == inodes.Dir
}

// isLink says whether there is a node, and it is a link.
func (n *nodes) isLink(node int) bool {
	return n.table.Kind(node) == inodes.Link
}

// hasNames says whether there are names in a directory.
func (n *nodes) hasNames(dir int) bool {
	return len(n.dirs[dir].names) > 0
}

// rising is the names in a directory, in order.
func (n *nodes) rising(dir int) []string {
	return slices.Sorted(maps.Keys(n.dirs[dir].names))
}

// bytes is all bytes of a node.
func (n *nodes) bytes(node int) string {
	data, _ := n.table.Read(node, 0, n.table.Size(node))
	return data
}

// open has a node of kind Dir be a directory without names.
func (n *nodes) open(node, parent int) {
	n.dirs[node] = directory{parent: parent, names: map[string]int{}}
}

// move has a directory stand in another one.
func (n *nodes) move(node, parent int) {
	n.dirs[node] = directory{parent: parent, names: n.dirs[node].names}
}

// above is the parent of a directory, of which one without a name may have none any more.
func (n *nodes) above(dir int) (int, api.Errno) {
	parent := n.dirs[dir].parent
	if parent == nowhere {
		return 0, api.ErrNoDir
	}
	return parent, api.OK
}

// within says whether a directory that has a name is another one, or stands below it.
func (n *nodes) within(dir, top int) bool {
	for dir != top && dir != root {
		dir = n.dirs[dir].parent
	}
	return dir == top
}

// lookup is the node to which a name leads, and whether there is that name.
func (n *nodes) lookup(at place) (int, bool) {
	node, there := n.dirs[at.dir].names[at.name]
	return node, there
}

// tie has a name lead to a node.
func (n *nodes) tie(at place, node int) {
	n.dirs[at.dir].names[at.name] = node
	n.table.Tie(node)
}

// untie takes a name that leads to a node away.
func (n *nodes) untie(at place, node int) {
	delete(n.dirs[at.dir].names, at.name)
	n.table.Untie(node)
	n.forget(node)
}

// forget drops what a directory had, once it is no more. What stood in it stands nowhere then:
// its number leads to no node any more, and may be another node's later.
func (n *nodes) forget(node int) {
	if _, was := n.dirs[node]; !was || n.isDir(node) {
		return
	}
	delete(n.dirs, node)
	for _, dir := range slices.Sorted(maps.Keys(n.dirs)) {
		if n.dirs[dir].parent == node {
			n.move(dir, nowhere)
		}
	}
}

// create makes a node of a kind, with these bytes, at a path.
func (n *nodes) create(dir int, path string, kind int, text string) (int, api.Errno) {
	at, e := n.newPlace(dir, path)
	if e != api.OK {
		return 0, e
	}
	node, e := n.table.Make(kind)
	if e != api.OK {
		return 0, e
	}
	n.tie(at, node)
	if done, _ := n.table.Write(node, 0, text); done < len(text) {
		n.untie(at, node)
		return 0, api.ErrSpace
	}
	if kind == inodes.Dir {
		n.open(node, at.dir)
	}
	return node, api.OK
}
