package files_test

import (
	"strings"
	"testing"

	"conch/api"
	"conch/files"
)

// P14.2

// Each place and each number of bytes.
func TestRead(t *testing.T) {
	f := made(t, 3, 9)
	text := strings.Repeat("0123456789", 15)
	n := file(t, f, "f", text)
	file(t, f, "other", "other")
	for from := range 152 {
		for _, more := range []int{0, 1, 2, 63, 64, 65, 128, 149, 150, 151, top, most} {
			o := open(t, f, "f", r)
			at := min(from, 150)
			reads(t, o, from, text[:at])
			reads(t, o, more, text[at:at+min(more, 150-at)])
			reads(t, o, most, text[o.At():])
			reads(t, o, most, "")
			does(t, "Close", o.Close(), api.OK)
		}
	}
	contains(t, f, n, text)
}

func TestReadNothing(t *testing.T) {
	f := made(t, 2, 1)
	o := open(t, f, "f", r|c)
	for _, n := range []int{0, 1, 64, most, 0} {
		reads(t, o, n, "")
	}
	free(t, f, 0, 1)
}

func TestReadRefused(t *testing.T) {
	f := some(t)
	o := open(t, f, "f", r|w)
	for _, place := range []int{0, 2, 3} {
		reads(t, o, place-o.At(), "old"[o.At():place])
		for _, n := range []int{-1, -2, -64, least + 1, least} {
			noRead(t, f, o, n, api.ErrArg)
		}
	}
}

// Behind the end, since the file was cut: nothing, and the place stays; what comes to stand there is read.
func TestReadBehind(t *testing.T) {
	f := made(t, 2, 4)
	n := file(t, f, "f", strings.Repeat("a", 100))
	o := open(t, f, "f", r)
	reads(t, o, 90, strings.Repeat("a", 90))
	for _, size := range []int{90, 89, 10, 0} {
		does(t, "Cut", f.Cut(n, size), api.OK)
		reads(t, o, 0, "")
		reads(t, o, 5, "")
		reads(t, o, most, "")
		noRead(t, f, o, -1, api.ErrArg)
	}
	f.Write(n, 88, "later")
	reads(t, o, 1, "t")
	reads(t, o, 9, "er")
}

// What one was not opened for is told ahead of all else, but that it is closed.
func TestMode(t *testing.T) {
	for flags := range 64 {
		if flags&(r|w) == 0 {
			continue
		}
		f := some(t)
		o := open(t, f, "new", flags|c)
		fill(t, f, o.Node(), "abc")
		if flags&r == 0 {
			for _, n := range []int{least, -1, 0, 1, most} {
				noRead(t, f, o, n, api.ErrMode)
			}
		} else {
			reads(t, o, 2, "ab")
			noRead(t, f, o, -1, api.ErrArg)
		}
		if flags&w == 0 {
			for _, data := range []string{"", "a", strings.Repeat("a", top+1)} {
				noWrite(t, f, o, data, api.ErrMode)
			}
		} else {
			writes(t, o, "", 0, placeOf(o, flags, 3))
		}
		does(t, "Close", o.Close(), api.OK)
		closed(t, f, o)
	}
}

// placeOf is where a Write of a file is to begin, when its node has so many bytes.
func placeOf(o *files.File, flags, size int) int {
	if flags&a != 0 {
		return size
	}
	return o.At()
}

// A Read and a Write go on at the same place.
func TestPlace(t *testing.T) {
	f := made(t, 2, 3)
	n := file(t, f, "f", "0123456789")
	o := open(t, f, "f", r|w)
	writes(t, o, "ab", 2, 2)
	reads(t, o, 3, "234")
	writes(t, o, "c", 1, 6)
	writes(t, o, "", 0, 6)
	reads(t, o, 1, "6")
	writes(t, o, "defg", 4, 11)
	reads(t, o, 9, "")
	contains(t, f, n, "ab234c6defg")
	p := open(t, f, "f", r|w)
	reads(t, p, 1, "a")
	writes(t, p, strings.Repeat("h", 100), 100, 101)
	at(t, o, 11)
	reads(t, o, 9, strings.Repeat("h", 9))
	free(t, f, 0, 1)
}

// Behind the end, since the file was cut: what is between has bytes 0.
func TestWriteBehind(t *testing.T) {
	f := made(t, 2, 4)
	n := file(t, f, "f", "")
	o := open(t, f, "f", r|w)
	writes(t, o, strings.Repeat("a", 130), 130, 130)
	does(t, "Cut", f.Cut(n, 2), api.OK)
	writes(t, o, "", 0, 130)
	contains(t, f, n, "aa")
	writes(t, o, "b", 1, 131)
	contains(t, f, n, "aa"+strings.Repeat("\x00", 128)+"b")
	free(t, f, 0, 2)
}

// With Append what is written stands behind all that there is, wherever the place was.
func TestAppend(t *testing.T) {
	f := made(t, 3, 6)
	n := file(t, f, "f", "old")
	o := open(t, f, "f", r|w|a)
	at(t, o, 0)
	writes(t, o, "1", 1, 4)
	p := open(t, f, "f", r|w|a)
	reads(t, p, 2, "ol")
	writes(t, p, "23", 2, 6)
	at(t, o, 4)
	reads(t, o, 1, "2")
	writes(t, o, "4", 1, 7)
	contains(t, f, n, "old1234")
	// By a file without Append, and by the node's number.
	q := open(t, f, "f", w)
	writes(t, q, "01234567", 8, 8)
	writes(t, p, "8", 1, 9)
	f.Write(n, 70, "x")
	writes(t, o, "y", 1, 72)
	contains(t, f, n, "012345678"+strings.Repeat("\x00", 61)+"xy")
	// A file that was cut in between.
	does(t, "Cut", f.Cut(n, 3), api.OK)
	writes(t, o, "cut", 3, 6)
	contains(t, f, n, "012cut")
	does(t, "Cut", f.Cut(n, 0), api.OK)
	writes(t, p, "", 0, 0)
	writes(t, p, "new", 3, 3)
	contains(t, f, n, "new")
	// Without Append it goes on where it was.
	writes(t, q, "z", 1, 9)
	contains(t, f, n, "new\x00\x00\x00\x00\x00z")
}

// No bytes: the place is the end even so, with Append; without it, it stays.
func TestWriteNothing(t *testing.T) {
	f := made(t, 3, 1)
	n := file(t, f, "f", "full")
	o, p := open(t, f, "f", r|w), open(t, f, "f", r|w|a)
	writes(t, o, "", 0, 0)
	reads(t, o, 1, "f")
	writes(t, o, "", 0, 1)
	reads(t, p, 1, "f")
	writes(t, p, "", 0, 4)
	reads(t, p, 9, "")
	contains(t, f, n, "full")
	held(t, f, n, 2)
}

// Only a part is written where no block is left; where none of it is, nothing changes, but that one that appends is at the end.
func TestWriteRunsOut(t *testing.T) {
	for blocks := 1; blocks <= 4; blocks++ {
		for _, ahead := range []int{0, 1, 62, 63} {
			f, room := made(t, 3, blocks), blocks*part-ahead
			n := file(t, f, "f", strings.Repeat("a", ahead))
			want := strings.Repeat("a", ahead) + strings.Repeat("b", room)
			for _, flags := range []int{r | w, r | w | a} {
				o, p := open(t, f, "f", flags), open(t, f, "f", r|w|a)
				reads(t, o, ahead, want[:ahead])
				writes(t, o, strings.Repeat("b", 400), room, blocks*part)
				noWrite(t, f, o, "c", api.ErrSpace)
				noWrite(t, f, o, strings.Repeat("c", top+1), api.ErrSpace)
				writes(t, o, "", 0, blocks*part)
				// One that is not at the end yet: with Append it comes to it, error or not; without, it stays.
				reads(t, p, 1, want[:1])
				noAppend(t, f, p, "c", api.ErrSpace, blocks*part)
				reads(t, p, 9, "")
				noAppend(t, f, p, "c", api.ErrSpace, blocks*part)
				q := open(t, f, "f", r|w)
				does(t, "Cut", f.Cut(n, blocks*part+2*part), api.OK)
				reads(t, q, blocks*part, want)
				noWrite(t, f, q, "c", api.ErrSpace)
				noAppend(t, f, p, "c", api.ErrSpace, blocks*part+2*part)
				does(t, "Cut", f.Cut(n, blocks*part), api.OK)
				does(t, "Close", q.Close(), api.OK)
				contains(t, f, n, want)
				free(t, f, 1, 0)
				does(t, "Cut", f.Cut(n, ahead), api.OK)
			}
		}
	}
}

func TestWriteBig(t *testing.T) {
	f := made(t, 2, 64)
	n := file(t, f, "f", "")
	o, p := open(t, f, "f", r|w), open(t, f, "f", w|a)
	writes(t, o, strings.Repeat("a", top+1), top, top)
	noWrite(t, f, o, "b", api.ErrBig)
	noAppend(t, f, p, "b", api.ErrBig, top)
	writes(t, o, "", 0, top)
	writes(t, p, "", 0, top)
	noWrite(t, f, p, "b", api.ErrBig)
	reads(t, o, 1, "")
	contains(t, f, n, strings.Repeat("a", top))
	does(t, "Cut", f.Cut(n, top-2), api.OK)
	writes(t, p, "bcd", 2, top)
	noWrite(t, f, o, "e", api.ErrBig)
}

// With Append the place is the end ahead of Write's error, whether it was ahead of it or behind; and a Read goes on there.
func TestAppendRefused(t *testing.T) {
	f := made(t, 3, 1)
	n := file(t, f, "f", strings.Repeat("a", part))
	o := open(t, f, "f", r|w|a)
	noAppend(t, f, o, "x", api.ErrSpace, part)
	reads(t, o, 5, "")
	does(t, "Cut", f.Cut(n, 3*part), api.OK)
	reads(t, o, 5, "\x00\x00\x00\x00\x00")
	noAppend(t, f, o, "x", api.ErrSpace, 3*part)
	// The end is ahead of its place now, since the file was cut.
	does(t, "Cut", f.Cut(n, part), api.OK)
	noAppend(t, f, o, "xyz", api.ErrSpace, part)
	does(t, "Cut", f.Cut(n, top), api.OK)
	noAppend(t, f, o, "x", api.ErrBig, top)
	does(t, "Cut", f.Cut(n, 2), api.OK)
	at(t, o, top)
	writes(t, o, "bc", 2, 4)
	contains(t, f, n, "aabc")
}

// The errors that are told ahead of the place leave it as it is: of a file that was not opened to Write, and of one that is closed.
func TestAppendNotTried(t *testing.T) {
	for _, size := range []int{1, part, part + 1} {
		f := made(t, 2, 2)
		n := file(t, f, "f", strings.Repeat("a", size))
		o, p := open(t, f, "f", r|a), open(t, f, "f", w|a)
		noWrite(t, f, o, "x", api.ErrMode)
		noWrite(t, f, o, "", api.ErrMode)
		at(t, o, 0)
		does(t, "Close", p.Close(), api.OK)
		noWrite(t, f, p, "x", api.ErrFd)
		noWrite(t, f, p, "", api.ErrFd)
		at(t, p, 0)
		contains(t, f, n, strings.Repeat("a", size))
	}
}

// Any bytes.
func TestBytes(t *testing.T) {
	var all strings.Builder
	for b := range 256 {
		all.WriteByte(byte(b))
	}
	f := made(t, 2, 9)
	o, p := open(t, f, "f", w|c), open(t, f, "f", r)
	writes(t, o, all.String(), 256, 256)
	reads(t, p, most, all.String())
}

func TestAtNode(t *testing.T) {
	f := some(t)
	for _, path := range []string{"f", "far", "new"} {
		o := open(t, f, path, r|w|c)
		n := node(t, f, path)
		if o.Node() != n {
			t.Fatalf("%s: %d; want %d", path, o.Node(), n)
		}
		writes(t, o, "ab", 2, 2)
		does(t, "Close", o.Close(), api.OK)
		// Once it is closed they are what they were.
		at(t, o, 2)
		if o.Node() != n {
			t.Fatalf("%s: %d; want %d", path, o.Node(), n)
		}
	}
}

func TestClose(t *testing.T) {
	f := some(t)
	o, p := open(t, f, "f", r), open(t, f, "f", w)
	does(t, "Close", o.Close(), api.OK)
	held(t, f, 2, 1)
	closed(t, f, o)
	held(t, f, 2, 1)
	writes(t, p, "a", 1, 1)
	does(t, "Close", p.Close(), api.OK)
	closed(t, f, p)
	held(t, f, 2, 0)
	contains(t, f, 2, "ald")
	// What has a name is there still, and may be opened again; the other ones stay closed.
	q := open(t, f, "f", r)
	closed(t, f, o)
	closed(t, f, p)
	reads(t, q, 9, "ald")
}

func TestNilFile(t *testing.T) {
	var o *files.File
	for _, n := range []int{least, -1, 0, 1, most} {
		if data, e := o.Read(n); data != "" || e != api.ErrNil {
			t.Errorf("Read(%d): %q, %d", n, data, int(e))
		}
	}
	for _, data := range []string{"", "a"} {
		if n, e := o.Write(data); n != 0 || e != api.ErrNil {
			t.Errorf("Write(%q): %d, %d", data, n, int(e))
		}
	}
	if at, n := o.At(), o.Node(); at != 0 || n != 0 {
		t.Errorf("At, Node: %d, %d", at, n)
	}
	does(t, "Close", o.Close(), api.ErrNil)
}

// One that Open did not make is as one that is closed.
func TestNotOpened(t *testing.T) {
	var o files.File
	closed(t, some(t), &o)
	if at, n := o.At(), o.Node(); at != 0 || n != 0 {
		t.Errorf("At, Node: %d, %d", at, n)
	}
}

// A node that somebody else let go is no more: names' errors, and it is closed even so. It has no size that would be the place.
func TestNodeGone(t *testing.T) {
	for _, flags := range []int{r | w, r | w | a} {
		f := some(t)
		o := open(t, f, "f", flags)
		reads(t, o, 1, "o")
		does(t, "Unlink", f.Unlink(1, "f"), api.OK)
		does(t, "Loose", f.Loose(2), api.OK)
		for range 2 {
			noRead(t, f, o, 0, api.ErrNone)
			noRead(t, f, o, 1, api.ErrNone)
			noRead(t, f, o, -1, api.ErrNone)
			noWrite(t, f, o, "a", api.ErrNone)
			noWrite(t, f, o, "", api.ErrNone)
		}
		does(t, "Close", o.Close(), api.OK)
		closed(t, f, o)
	}
}
