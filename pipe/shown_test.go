package pipe_test

import (
	"strings"
	"testing"

	"conch/api"
	"conch/pipe"
)

const (
	most  = int(^uint(0) >> 1)
	least = -most - 1
	full  = api.PipeSize
)

// What Join and Leave are told.
const (
	reader = false
	writer = true
)

// made is a pipe with so many readers and writers, in which these bytes are.
func made(t *testing.T, readers, writers int, data string) *pipe.Pipe {
	t.Helper()
	p := pipe.New()
	writes(t, p, data, len(data))
	for range readers {
		does(t, "Join", p.Join(reader), api.OK)
	}
	for range writers {
		does(t, "Join", p.Join(writer), api.OK)
	}
	does(t, "Leave", p.Leave(reader), api.OK)
	does(t, "Leave", p.Leave(writer), api.OK)
	tells(t, p, readers, writers, data)
	return p
}

// turned is a pipe with a reader and a writer through which so many bytes have gone, and in which these are.
func turned(t *testing.T, gone int, data string) *pipe.Pipe {
	t.Helper()
	p := pipe.New()
	for range gone {
		writes(t, p, "-", 1)
		reads(t, p, 1, "-")
	}
	writes(t, p, data, len(data))
	return p
}

// bytes is so many bytes, from the byte of this value on, one of each.
func bytes(from, n int) string {
	var out strings.Builder
	for i := range n {
		out.WriteByte(byte(from + i))
	}
	return out.String()
}

// does holds what a call answered against what it is to answer.
func does(t *testing.T, name string, e, wrong api.Errno) {
	t.Helper()
	if e != wrong {
		t.Fatalf("%s: %d; want %d", name, int(e), int(wrong))
	}
}

// inside is all bytes of a pipe, of which a copy is asked.
func inside(p *pipe.Pipe) string {
	of := *p
	data, _ := of.Read(most)
	return data
}

// tells holds all that a pipe tells.
func tells(t *testing.T, p *pipe.Pipe, readers, writers int, data string) {
	t.Helper()
	if r, w := p.Users(); r != readers || w != writers {
		t.Fatalf("Users: %d, %d; want %d, %d", r, w, readers, writers)
	}
	if n, now := p.Len(), inside(p); n != len(data) || now != data {
		t.Fatalf("%d bytes, %q; want %q", n, now, data)
	}
}

// reads holds a Read that answers these bytes, and what is in the pipe then.
func reads(t *testing.T, p *pipe.Pipe, n int, want string) {
	t.Helper()
	was := inside(p)
	r, w := p.Users()
	if data, e := p.Read(n); data != want || e != api.OK {
		t.Fatalf("Read(%d) of %q: %q, %d; want %q", n, was, data, int(e), want)
	}
	tells(t, p, r, w, was[len(want):])
}

// writes holds a Write of which so many bytes are put behind the others.
func writes(t *testing.T, p *pipe.Pipe, data string, want int) {
	t.Helper()
	was := inside(p)
	r, w := p.Users()
	if n, e := p.Write(data); n != want || e != api.OK {
		t.Fatalf("Write(%q) behind %q: %d, %d; want %d", data, was, n, int(e), want)
	}
	tells(t, p, r, w, was+data[:want])
}

// loses holds a Write of which all bytes are lost.
func loses(t *testing.T, p *pipe.Pipe, data string) {
	t.Helper()
	r, w := p.Users()
	if n, e := p.Write(data); n != len(data) || e != api.OK {
		t.Fatalf("Write(%.80q): %d, %d; want %d", data, n, int(e), len(data))
	}
	tells(t, p, r, w, "")
}

// noRead, noWrite and noLeave hold a call that answers an error, and changes nothing.
func noRead(t *testing.T, p *pipe.Pipe, n int, wrong api.Errno) {
	t.Helper()
	same(t, p, func() {
		if data, e := p.Read(n); data != "" || e != wrong {
			t.Fatalf("Read(%d): %q, %d; want %d", n, data, int(e), int(wrong))
		}
	})
}

func noWrite(t *testing.T, p *pipe.Pipe, data string, wrong api.Errno) {
	t.Helper()
	same(t, p, func() {
		if n, e := p.Write(data); n != 0 || e != wrong {
			t.Fatalf("Write(%.80q): %d, %d; want %d", data, n, int(e), int(wrong))
		}
	})
}

func noLeave(t *testing.T, p *pipe.Pipe, writes bool) {
	t.Helper()
	same(t, p, func() { does(t, "Leave", p.Leave(writes), api.ErrFd) })
}

// same holds that something changes nothing.
func same(t *testing.T, p *pipe.Pipe, do func()) {
	t.Helper()
	r, w := p.Users()
	data := inside(p)
	do()
	tells(t, p, r, w, data)
}
