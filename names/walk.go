package names

import (
	"strings"

	"conch/api"
)

// stroke is what stands between the parts of a path.
const stroke = "/"

// walk is a walk through nodes. What links say is walked by it too, so that it ends.
type walk struct {
	*nodes
	followed int // how many links it has followed
}

// walkFrom is the node to which a path leads from a directory.
func (n *nodes) walkFrom(dir int, path string, follow bool) (int, api.Errno) {
	w := walk{nodes: n}
	return w.along(dir, path, follow)
}

// along goes a path, part by part.
func (w *walk) along(dir int, path string, follow bool) (int, api.Errno) {
	if path == "" {
		return 0, api.ErrNone
	}
	if len(path) > api.MaxPath {
		return 0, api.ErrBig
	}
	at := dir
	if strings.HasPrefix(path, stroke) {
		at = root
	}
	parts := strings.Split(path, stroke)
	for i, part := range parts {
		next, e := w.step(at, part, follow || i < len(parts)-1)
		if e != api.OK {
			return 0, e
		}
		at = next
	}
	return at, api.OK
}

// step goes one part.
func (w *walk) step(at int, part string, follow bool) (int, api.Errno) {
	if !w.isDir(at) {
		return 0, api.ErrNoDir
	}
	switch part {
	case "", ".":
		return at, api.OK
	case "..":
		return w.above(at)
	}
	if len(part) > api.MaxName {
		return 0, api.ErrBig
	}
	node, there := w.lookup(place{dir: at, name: part})
	if !there {
		return 0, api.ErrNone
	}
	if follow && w.isLink(node) {
		return w.through(at, node)
	}
	return node, api.OK
}

// through goes what a link says, from the directory that it stands in.
func (w *walk) through(dir, link int) (int, api.Errno) {
	if w.followed == api.MaxLinks {
		return 0, api.ErrLoop
	}
	w.followed++
	return w.along(dir, w.bytes(link), true)
}

// placeOf is the place of a path: a directory that is there, and a name that may stand in it.
func (n *nodes) placeOf(dir int, path string) (place, api.Errno) {
	if path == "" {
		return place{}, api.ErrNone
	}
	short := strings.TrimRight(path, stroke)
	cut := strings.LastIndex(short, stroke) + 1
	ahead, last := short[:cut], short[cut:]
	if last == "" || last == "." || last == ".." {
		return place{}, api.ErrArg
	}
	if len(path) > api.MaxPath || len(last) > api.MaxName {
		return place{}, api.ErrBig
	}
	if ahead == "" {
		return place{dir: dir, name: last}, api.OK
	}
	// The stroke at the end of what is ahead asks for a directory.
	at, e := n.walkFrom(dir, ahead, true)
	if e != api.OK {
		return place{}, e
	}
	return place{dir: at, name: last}, api.OK
}

// newPlace is the place of a path where a name may be made.
func (n *nodes) newPlace(dir int, path string) (place, api.Errno) {
	at, e := n.placeOf(dir, path)
	if e != api.OK {
		return place{}, e
	}
	if _, there := n.lookup(at); there {
		return place{}, api.ErrThere
	}
	if n.table.Links(at.dir) == 0 {
		return place{}, api.ErrNone
	}
	return at, api.OK
}
