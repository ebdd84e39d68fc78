package fds_test

import (
	"strings"
	"testing"

	"conch/api"
	"conch/fds"
)

// P16.4

// all opens 0 for a tape, 1 for a sink, 2 for a file that is read and written, 3 for one that is read, 4 for one that is written, 5 and 6 for a pipe.
func all(d *desk, s *fds.Set) {
	d.Helper()
	d.tape(s, 0, "the tape")
	d.sink(s, 1, 1)
	d.open(s, "f", r|w, 2)
	d.open(s, "d/g", r, 3)
	d.open(s, "n", w|c, 4)
	d.pipe(s, 5, 6)
}

// ErrFd of what is not open, ahead of all else.
func TestNotOpen(t *testing.T) {
	d, s := begun(t)
	all(d, s)
	for _, fd := range append(noNumbers, 7, 8, 14, 15) {
		for _, n := range []int{least, -1, 0, 1, most} {
			d.noRead(s, fd, n, api.ErrFd)
		}
		for _, data := range []string{"", "a", strings.Repeat("a", 5000)} {
			d.noWrite(s, fd, data, api.ErrFd)
		}
	}
	for fd := range 7 {
		d.close(s, fd, 1)
		d.noRead(s, fd, 1, api.ErrFd)
		d.noRead(s, fd, -1, api.ErrFd)
		d.noWrite(s, fd, "a", api.ErrFd)
		d.noWrite(s, fd, "", api.ErrFd)
	}
}

// ErrMode of what is not for that, whatever is asked; and it is as it was.
func TestMode(t *testing.T) {
	d, s := begun(t)
	all(d, s)
	d.writes(s, 6, "in the pipe", 11)
	d.writes(s, 1, "sunk", 4)
	for _, fd := range []int{1, 4, 6} {
		for _, n := range []int{least, -1, 0, 1, 64, most} {
			d.noRead(s, fd, n, api.ErrMode)
		}
	}
	for _, fd := range []int{0, 3, 5} {
		for _, data := range []string{"", "a", strings.Repeat("a", 65), strings.Repeat("a", 5000)} {
			d.noWrite(s, fd, data, api.ErrMode)
		}
	}
	d.reads(s, 0, 99, "the tape")
	d.reads(s, 5, 99, "in the pipe")
	d.reads(s, 3, 99, "deep")
	d.sunk(1, "sunk")
}

// Each place of a tape, and each number of bytes.
func TestReadTape(t *testing.T) {
	text := "0123456789\x00\xff\n and so on"
	for from := range len(text) + 2 {
		for _, n := range []int{0, 1, 2, len(text) - 1, len(text), len(text) + 1, 1000, most} {
			d, s := begun(t)
			d.tape(s, 4, text)
			at := min(from, len(text))
			d.reads(s, 4, from, text[:at])
			d.reads(s, 4, n, text[at:at+min(n, len(text)-at)])
			at += min(n, len(text)-at)
			d.noRead(s, 4, -1, api.ErrArg)
			d.noRead(s, 4, least, api.ErrArg)
			d.reads(s, 4, 0, "")
			d.reads(s, 4, most, text[at:])
			d.reads(s, 4, 1, "")
			d.reads(s, 4, most, "")
			d.noRead(s, 4, -1, api.ErrArg)
		}
	}
}

// A tape of nothing, and one that is longer than a pipe or a file may be.
func TestTapes(t *testing.T) {
	d, s := begun(t)
	d.tape(s, 0, "")
	for _, n := range []int{0, 1, most, 0} {
		d.reads(s, 0, n, "")
	}
	text := strings.Repeat("a long text of many bytes; ", 400)
	d.tape(s, 1, text)
	for at := 0; at < len(text); at += 7 {
		d.reads(s, 1, 7, text[at:min(len(text), at+7)])
	}
	d.reads(s, 1, 7, "")
	d.tape(s, 2, text)
	d.reads(s, 2, 5000, text[:5000])
	d.reads(s, 2, 8000, text[5000:])
}

// Two tapes of one text have a place each.
func TestTapesApart(t *testing.T) {
	d, s := begun(t)
	d.tape(s, 0, "text")
	d.tape(s, 1, "text")
	d.reads(s, 0, 3, "tex")
	d.reads(s, 1, 9, "text")
	d.reads(s, 0, 9, "t")
}

// Of a file it is files' Read and Write, with their place and their errors.
func TestFile(t *testing.T) {
	d, s := begun(t)
	d.open(s, "f", r|w, 0)
	d.reads(s, 0, 0, "")
	d.reads(s, 0, 1, "o")
	d.noRead(s, 0, -1, api.ErrArg)
	d.noRead(s, 0, least, api.ErrArg)
	d.writes(s, 0, "", 0)
	d.writes(s, 0, "ther", 4)
	d.contains(2, "other")
	d.reads(s, 0, most, "")
	d.open(s, "f", r, 1)
	d.reads(s, 1, most, "other")
	d.open(s, "f", w|a, 2)
	d.writes(s, 2, "s", 1)
	d.reads(s, 0, 9, "s")
	d.writes(s, 0, "!", 1)
	d.reads(s, 1, 9, "s!")
	// 15 blocks are free, and one has room for 57 bytes.
	d.writes(s, 2, strings.Repeat("b", 2000), 15*64+57)
	d.noWrite(s, 2, "b", api.ErrSpace)
	d.does("Cut", d.f.Cut(2, 4096), api.OK)
	d.noWrite(s, 2, "b", api.ErrBig)
}

// Another number's place is another one, of the same file, if it was opened again.
func TestFilesApart(t *testing.T) {
	d, s := begun(t)
	d.open(s, "d/g", r, 0)
	d.open(s, "d/g", r, 1)
	d.dup(s, 1, 2, 0)
	d.reads(s, 1, 2, "de")
	d.reads(s, 0, 1, "d")
	d.reads(s, 2, 1, "e")
	d.reads(s, 0, 9, "eep")
	d.reads(s, 1, 9, "p")
}

// Of an end that is read it is the pipe's Read, of one that is written its Write.
func TestPipeEnds(t *testing.T) {
	d, s := begun(t)
	d.pipe(s, 0, 1)
	d.noRead(s, 0, 1, api.ErrWait)
	d.noRead(s, 0, most, api.ErrWait)
	d.noRead(s, 0, -1, api.ErrArg)
	d.noRead(s, 0, least, api.ErrArg)
	d.reads(s, 0, 0, "")
	d.writes(s, 1, "", 0)
	text := strings.Repeat("0123456789", 7)
	d.writes(s, 1, text, 64)
	d.noWrite(s, 1, "a", api.ErrWait)
	d.writes(s, 1, "", 0)
	d.reads(s, 0, 3, "012")
	d.writes(s, 1, "abcd", 3)
	d.noRead(s, 0, -1, api.ErrArg)
	d.reads(s, 0, most, text[3:64]+"abc")
	d.noRead(s, 0, 1, api.ErrWait)
	d.writes(s, 1, "left", 4)
	d.close(s, 1, 1)
	d.reads(s, 0, 3, "lef")
	d.reads(s, 0, 3, "t")
	d.reads(s, 0, 3, "")
	d.noRead(s, 0, -1, api.ErrArg)
}

// Of a sink all is put behind what was written, whatever the number it is written by.
func TestWriteSink(t *testing.T) {
	d, s := begun(t)
	d.sink(s, 0, 1)
	d.sink(s, 1, 2)
	d.dup(s, 0, 2, 0)
	want := ""
	for i, data := range []string{"a", "", "\x00", "\xff\xfe", "a line\n", strings.Repeat("b", 10000), "", "c"} {
		d.writes(s, i%2*2, data, len(data))
		want += data
		d.sunk(1, want)
		d.sunk(2, "")
	}
	d.writes(s, 1, "other", 5)
	d.sunk(1, want)
	d.sunk(2, "other")
}

// What was told of a sink stays as it was told.
func TestSunkStays(t *testing.T) {
	d, s := begun(t)
	d.sink(s, 0, 1)
	var told []string
	for range 100 {
		d.writes(s, 0, "a", 1)
		told = append(told, d.x.Sunk(1))
	}
	for i, text := range told {
		if text != strings.Repeat("a", i+1) {
			t.Fatalf("%d: %q", i, text)
		}
	}
}
