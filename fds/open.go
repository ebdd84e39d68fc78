package fds

import (
	"strings"

	"conch/api"
	"conch/files"
	"conch/pipe"
)

// opened is what may be open: it alone knows what is read of it, and what becomes of what is written to it.
type opened interface {
	read(n int) (string, api.Errno)
	write(data string) (int, api.Errno)
	close()
}

// thing is something open, for so many numbers of all sets.
type thing struct {
	what    opened
	numbers int
}

// file is a file that files opened.
type file struct {
	of *files.File
}

func (f file) read(n int) (string, api.Errno) { return f.of.Read(n) }

func (f file) write(data string) (int, api.Errno) { return f.of.Write(data) }

// close has no error to tell, since nobody else closes the file.
func (f file) close() { f.of.Close() }

// readOnly is a part of all that is not written.
type readOnly struct{}

func (readOnly) write(string) (int, api.Errno) { return 0, api.ErrMode }

// writeOnly is a part of all that is not read.
type writeOnly struct{}

func (writeOnly) read(int) (string, api.Errno) { return "", api.ErrMode }

// readEnd is the end of a pipe that is read: one reader, however many numbers are open for it.
type readEnd struct {
	readOnly
	of *pipe.Pipe
}

func (r readEnd) read(n int) (string, api.Errno) { return r.of.Read(n) }

func (r readEnd) close() { r.of.Leave(false) }

// writeEnd is the end of a pipe that is written: one writer, however many numbers are open for it.
type writeEnd struct {
	writeOnly
	of *pipe.Pipe
}

func (w writeEnd) write(data string) (int, api.Errno) { return w.of.Write(data) }

func (w writeEnd) close() { w.of.Leave(true) }

// tape is what is left of a text that is read.
type tape struct {
	readOnly
	left string
}

func (t *tape) read(n int) (string, api.Errno) {
	if n < 0 {
		return "", api.ErrArg
	}
	n = min(n, len(t.left))
	data := t.left[:n]
	t.left = t.left[n:]
	return data, api.OK
}

func (t *tape) close() {}

// sink is bytes that were written. They are told of once it is closed, too.
type sink struct {
	writeOnly
	written strings.Builder
}

func (s *sink) write(data string) (int, api.Errno) {
	s.written.WriteString(data)
	return len(data), api.OK
}

func (s *sink) close() {}
