package inodes

import (
	"strings"

	"conch/api"
)

// maxSize is how many bytes a node has at most.
const maxSize = api.MaxFile * api.BlockSize

// Read is n of a node's bytes from at on, or those up to its end (P12.3).
func (t *Table) Read(i, at, n int) (string, api.Errno) {
	of, e := t.find(i)
	if e != api.OK {
		return "", e
	}
	if at < 0 || n < 0 {
		return "", api.ErrArg
	}
	// What is left is held against n, since at and n may be more together than an int holds; behind the end it is below 0.
	return t.bytes(of, at, min(n, of.size-at)), api.OK
}

// Write puts bytes into a node from at on, as many as there is room for, and answers how many (P12.4).
func (t *Table) Write(i, at int, data string) (int, api.Errno) {
	of, e := t.find(i)
	if e != api.OK {
		return 0, e
	}
	if at < 0 {
		return 0, api.ErrArg
	}
	if data == "" {
		return 0, api.OK
	}
	if at >= maxSize {
		return 0, api.ErrBig
	}
	done := t.put(of, at, data[:min(len(data), maxSize-at)])
	if done == 0 {
		return 0, api.ErrSpace
	}
	of.size = max(of.size, at+done)
	return done, api.OK
}

// Cut leaves a node just so many bytes, or gives it bytes 0 up to so many (P12.3).
func (t *Table) Cut(i, size int) api.Errno {
	of, e := t.find(i)
	if e != api.OK {
		return e
	}
	if size < 0 {
		return api.ErrArg
	}
	if size > maxSize {
		return api.ErrBig
	}
	last, within := place(size)
	if within == 0 {
		t.giveFrom(of, last)
	} else {
		t.giveFrom(of, last+1)
		t.clear(of, last, within)
	}
	of.size = size
	return api.OK
}

// bytes is n bytes of a node from at on, where it has so many; nothing, if n is below 0.
func (t *Table) bytes(of *node, at, n int) string {
	var out strings.Builder
	for n > 0 {
		part, from := place(at)
		piece := min(n, api.BlockSize-from)
		out.WriteString(t.bytesOf(of, part, from, piece))
		at += piece
		n -= piece
	}
	return out.String()
}

// bytesOf is n bytes of a node's part.
func (t *Table) bytesOf(of *node, part, from, n int) string {
	if b, has := of.parts[part]; has {
		data, _ := t.store.Read(b, from, n)
		return data
	}
	return zeros(n)
}

// put writes data till no block is to be had, and answers how many bytes of it stand.
func (t *Table) put(of *node, at int, data string) int {
	done := 0
	for done < len(data) {
		part, from := place(at + done)
		b, e := t.block(of, part)
		if e != api.OK {
			break
		}
		piece := data[done:min(len(data), done+api.BlockSize-from)]
		t.store.Write(b, from, piece)
		done += len(piece)
	}
	return done
}

// block is the block of a node's part; one that has none gets one.
func (t *Table) block(of *node, part int) (int, api.Errno) {
	if b, has := of.parts[part]; has {
		return b, api.OK
	}
	b, e := t.store.Take()
	if e == api.OK {
		of.parts[part] = b
	}
	return b, e
}

// giveFrom gives the blocks of a node's parts back, from a part on.
func (t *Table) giveFrom(of *node, part int) {
	for p, b := range of.parts {
		if p >= part {
			t.store.Give(b)
			delete(of.parts, p)
		}
	}
}

// clear makes the bytes of a node's part 0, from one on.
func (t *Table) clear(of *node, part, from int) {
	if b, has := of.parts[part]; has {
		t.store.Write(b, from, zeros(api.BlockSize-from))
	}
}

// place is the part in which a byte stands, and where in it.
func place(at int) (int, int) {
	return at / api.BlockSize, at % api.BlockSize
}

// zeros is n bytes 0.
func zeros(n int) string {
	return strings.Repeat("\x00", n)
}
