package names

import (
	"strconv"
	"strings"

	"conch/inodes"
)

// Print is all that can be reached from the root, by paths (P13.6).
func (f *FS) Print() string {
	if f.empty() {
		return ""
	}
	var out strings.Builder
	f.printDir(&out, root, "")
	return out.String()
}

// printDir writes what is in a directory, to which a path leads.
func (n *nodes) printDir(out *strings.Builder, dir int, path string) {
	for _, name := range n.rising(dir) {
		node, _ := n.lookup(place{dir: dir, name: name})
		n.printNode(out, node, path+stroke+name)
	}
}

// printNode writes a node, to which a path leads, and what is in it.
func (n *nodes) printNode(out *strings.Builder, node int, path string) {
	out.WriteString(path)
	switch n.table.Kind(node) {
	case inodes.Dir:
		out.WriteString(stroke + "\n")
		n.printDir(out, node, path)
	case inodes.Link:
		out.WriteString(" -> " + n.bytes(node) + "\n")
	case inodes.File:
		out.WriteString(" " + strconv.Itoa(n.table.Size(node)) + "\n" + n.bytes(node) + "\n")
	}
}
