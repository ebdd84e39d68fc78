package names

import "conch/api"

// Rename has a name lead to a node, in the place of one that led to it (P13.4).
func (f *FS) Rename(dir int, from, to string) api.Errno {
	if e := f.refuse(dir); e != api.OK {
		return e
	}
	old, e := f.placeOf(dir, from)
	if e != api.OK {
		return e
	}
	at, e := f.placeOf(dir, to)
	if e != api.OK {
		return e
	}
	node, there := f.lookup(old)
	if !there || f.table.Links(at.dir) == 0 {
		return api.ErrNone
	}
	other, taken := f.lookup(at)
	if taken && other == node {
		return api.OK
	}
	if f.isDir(node) && f.within(at.dir, node) {
		return api.ErrCross
	}
	if taken {
		if e := f.refuseOver(node, other); e != api.OK {
			return e
		}
		f.untie(at, other)
	}
	f.tie(at, node)
	f.untie(old, node)
	if f.isDir(node) {
		f.move(node, at.dir)
	}
	return api.OK
}

// refuseOver is why a node may not come in the place of another one.
func (n *nodes) refuseOver(node, other int) api.Errno {
	switch {
	case n.isDir(node) && !n.isDir(other):
		return api.ErrNoDir
	case !n.isDir(node) && n.isDir(other):
		return api.ErrDir
	case n.isDir(node) && n.hasNames(other):
		return api.ErrFull
	}
	return api.OK
}
