package pipe_test

import (
	"strings"
	"testing"

	"conch/api"
	"conch/pipe"
)

// P15.1

func TestNew(t *testing.T) {
	p, other := pipe.New(), pipe.New()
	tells(t, p, 1, 1, "")
	writes(t, p, "one", 3)
	does(t, "Join", p.Join(reader), api.OK)
	tells(t, other, 1, 1, "")
	tells(t, p, 2, 1, "one")
}

// Several of each join and leave, and the others stay as many.
func TestJoinAndLeave(t *testing.T) {
	for _, writes := range []bool{reader, writer} {
		p := made(t, 3, 4, "bytes")
		many := [2]int{3, 4}
		mine := &many[0]
		if writes {
			mine = &many[1]
		}
		for range 50 {
			does(t, "Join", p.Join(writes), api.OK)
			*mine++
			tells(t, p, many[0], many[1], "bytes")
		}
		for *mine > 1 {
			does(t, "Leave", p.Leave(writes), api.OK)
			*mine--
			tells(t, p, many[0], many[1], "bytes")
		}
	}
}

// None is there: it can't leave, however often it is asked, and one that joins then can.
func TestLeaveNone(t *testing.T) {
	for _, writes := range []bool{reader, writer} {
		p := pipe.New()
		does(t, "Leave", p.Leave(writes), api.OK)
		for range 3 {
			noLeave(t, p, writes)
		}
		does(t, "Leave", p.Leave(!writes), api.OK)
		noLeave(t, p, writes)
		noLeave(t, p, !writes)
		tells(t, p, 0, 0, "")
		does(t, "Join", p.Join(writes), api.OK)
		noLeave(t, p, !writes)
		does(t, "Leave", p.Leave(writes), api.OK)
		noLeave(t, p, writes)
	}
}

// The number of readers never keeps a writer, nor the other way round.
func TestLeaveOthers(t *testing.T) {
	p := made(t, 5, 0, "")
	noLeave(t, p, writer)
	tells(t, p, 5, 0, "")
	p = made(t, 0, 5, "")
	noLeave(t, p, reader)
	tells(t, p, 0, 5, "")
}

func TestNil(t *testing.T) {
	var p *pipe.Pipe
	for _, n := range []int{least, -1, 0, 1, full, most} {
		if data, e := p.Read(n); data != "" || e != api.ErrNil {
			t.Errorf("Read(%d): %q, %d", n, data, int(e))
		}
	}
	for _, data := range []string{"", "a", bytes(0, 300)} {
		if n, e := p.Write(data); n != 0 || e != api.ErrNil {
			t.Errorf("Write(%q): %d, %d", data, n, int(e))
		}
	}
	for _, writes := range []bool{reader, writer} {
		does(t, "Join", p.Join(writes), api.ErrNil)
		does(t, "Leave", p.Leave(writes), api.ErrNil)
	}
	r, w := p.Users()
	if r != 0 || w != 0 || p.Len() != 0 {
		t.Errorf("%d, %d, %d", r, w, p.Len())
	}
}

// One that New did not make has no bytes, no readers and no writers.
func TestNotMade(t *testing.T) {
	p := &pipe.Pipe{}
	tells(t, p, 0, 0, "")
	noRead(t, p, 1, api.ErrFd)
	noWrite(t, p, "a", api.ErrFd)
	noLeave(t, p, reader)
	noLeave(t, p, writer)
	does(t, "Join", p.Join(writer), api.OK)
	loses(t, p, "lost")
	does(t, "Join", p.Join(reader), api.OK)
	writes(t, p, "kept", 4)
	reads(t, p, 9, "kept")
}

// P15.2

// Each number of bytes of a pipe that has each number of them.
func TestRead(t *testing.T) {
	for many := range full + 1 {
		data := bytes(many, many)
		for n := range full + 3 {
			p := made(t, 1, 1, data)
			if many == 0 && n > 0 {
				noRead(t, p, n, api.ErrWait)
				continue
			}
			reads(t, p, n, data[:min(n, many)])
		}
	}
}

func TestReadMany(t *testing.T) {
	for _, n := range []int{6, 63, 64, 65, 4096, most - 1, most} {
		p := made(t, 1, 1, "bytes")
		reads(t, p, n, "bytes")
		noRead(t, p, n, api.ErrWait)
	}
}

// Of no bytes: nothing, never an error, with a writer and without one.
func TestReadNone(t *testing.T) {
	for _, data := range []string{"", "a", bytes(0, full)} {
		for writers := range 3 {
			reads(t, made(t, 1, writers, data), 0, "")
		}
	}
}

// Nothing is there: with a writer one has to wait, without one there will be nothing.
func TestReadEmpty(t *testing.T) {
	for readers := 1; readers < 4; readers++ {
		for _, n := range []int{1, 2, full, most} {
			for writers := 1; writers < 4; writers++ {
				p := made(t, readers, writers, "")
				noRead(t, p, n, api.ErrWait)
				reads(t, p, 0, "")
			}
			reads(t, made(t, readers, 0, ""), n, "")
		}
	}
}

func TestReadBelowNone(t *testing.T) {
	for _, n := range []int{-1, -2, -full, least + 1, least} {
		for _, data := range []string{"", "a", bytes(0, full)} {
			for writers := range 3 {
				noRead(t, made(t, 1, writers, data), n, api.ErrArg)
			}
		}
	}
}

// Without a reader, ahead of all else.
func TestReadWithoutReader(t *testing.T) {
	for _, n := range []int{least, -1, 0, 1, full, most} {
		for writers := range 3 {
			noRead(t, made(t, 0, writers, ""), n, api.ErrFd)
			p := made(t, 1, writers, "lost")
			does(t, "Leave", p.Leave(reader), api.OK)
			noRead(t, p, n, api.ErrFd)
		}
	}
}

// P15.3

// Each number of bytes into a pipe that has each number of them.
func TestWrite(t *testing.T) {
	for many := range full + 1 {
		for n := range full + 3 {
			p, data := made(t, 1, 1, bytes(many, many)), bytes(7, n)
			if many == full && n > 0 {
				noWrite(t, p, data, api.ErrWait)
				continue
			}
			writes(t, p, data, min(n, full-many))
		}
	}
}

func TestWriteFarMore(t *testing.T) {
	for _, many := range []int{0, 1, 63} {
		for _, n := range []int{65, 128, 300, 5000, 1 << 20} {
			p := made(t, 1, 1, bytes(0, many))
			writes(t, p, strings.Repeat(bytes(9, 250), n/250+1)[:n], full-many)
			noWrite(t, p, "x", api.ErrWait)
			noWrite(t, p, bytes(0, n), api.ErrWait)
		}
	}
}

// Of no bytes: 0, never an error for want of room.
func TestWriteNone(t *testing.T) {
	for _, many := range []int{0, 1, 63, 64} {
		writes(t, made(t, 1, 1, bytes(0, many)), "", 0)
	}
	loses(t, made(t, 0, 1, ""), "")
}

// From each place of the ring on, with each number of bytes in it: what is written goes round it, and is read in order.
func TestRing(t *testing.T) {
	for gone := range 2*full + 2 {
		for many := range full + 1 {
			p, data := turned(t, gone, bytes(gone, many)), bytes(gone, many)
			more := bytes(gone+many, full+1)
			if many < full {
				writes(t, p, more, full-many)
			}
			noWrite(t, p, more, api.ErrWait)
			data += more[:full-many]
			reads(t, p, many, data[:many])
			if many < full {
				reads(t, p, full, data[many:])
			}
			noRead(t, p, 1, api.ErrWait)
		}
	}
}

// A full pipe, of which a part is read, takes just as much again.
func TestFullAgain(t *testing.T) {
	for n := 1; n <= full; n++ {
		p, data := pipe.New(), bytes(0, 251)
		writes(t, p, data, full)
		in, out := full, 0
		for in < len(data) {
			reads(t, p, n, data[out:out+n])
			out += n
			now := min(n, len(data)-in)
			writes(t, p, data[in:], now)
			in += now
		}
		reads(t, p, full, data[out:])
	}
}

func TestWriteWithoutWriter(t *testing.T) {
	for _, data := range []string{"", "a", bytes(0, 300)} {
		for _, kept := range []string{"", "kept", bytes(0, full)} {
			noWrite(t, made(t, 1, 0, kept), data, api.ErrFd)
		}
		// Without both it is the writer that is named first.
		noWrite(t, made(t, 0, 0, ""), data, api.ErrFd)
	}
}

func TestWriteWithoutReader(t *testing.T) {
	for _, lost := range []string{"", "lost", bytes(0, full)} {
		for writers := 1; writers < 3; writers++ {
			p := made(t, 1, writers, lost)
			does(t, "Leave", p.Leave(reader), api.OK)
			for _, n := range []int{0, 1, 63, 64, 65, 128, 5000} {
				loses(t, p, strings.Repeat("l", n))
			}
			does(t, "Join", p.Join(reader), api.OK)
			tells(t, p, 1, writers, "")
			noRead(t, p, 1, api.ErrWait)
			writes(t, p, "read", 4)
			reads(t, p, 9, "read")
		}
	}
}

// The last reader takes all with it, whatever the place in the ring; one that joins then finds nothing, and all the room.
func TestLastReader(t *testing.T) {
	for gone := range full + 1 {
		for _, many := range []int{0, 1, 30, 63, 64} {
			for writers := range 3 {
				p := turned(t, gone, bytes(0, many))
				for range writers {
					does(t, "Join", p.Join(writer), api.OK)
				}
				does(t, "Leave", p.Leave(writer), api.OK)
				does(t, "Leave", p.Leave(reader), api.OK)
				tells(t, p, 0, writers, "")
				noRead(t, p, 1, api.ErrFd)
				noLeave(t, p, reader)
				does(t, "Join", p.Join(reader), api.OK)
				tells(t, p, 1, writers, "")
				if writers == 0 {
					reads(t, p, 9, "")
					does(t, "Join", p.Join(writer), api.OK)
				}
				noRead(t, p, 9, api.ErrWait)
				writes(t, p, bytes(100, 70), full)
				reads(t, p, 70, bytes(100, full))
			}
		}
	}
}

// A reader that is not the last one takes nothing with it, nor does a writer.
func TestNotTheLast(t *testing.T) {
	p := made(t, 3, 3, "stays")
	for _, who := range []bool{reader, writer, reader, writer, writer} {
		does(t, "Leave", p.Leave(who), api.OK)
		if now := inside(p); now != "stays" || p.Len() != 5 {
			t.Fatalf("%d, %q", p.Len(), now)
		}
	}
	reads(t, p, 9, "stays")
}

// The last writer leaves what it wrote; a writer that joins again puts its bytes behind it.
func TestLastWriter(t *testing.T) {
	for _, many := range []int{0, 1, 30, 63, 64} {
		for read := range many + 1 {
			p, data := pipe.New(), bytes(3, many)
			writes(t, p, data, many)
			does(t, "Leave", p.Leave(writer), api.OK)
			tells(t, p, 1, 0, data)
			noWrite(t, p, "x", api.ErrFd)
			reads(t, p, read, data[:read])
			end := *p
			reads(t, &end, most, data[read:])
			reads(t, &end, most, "")
			reads(t, &end, 0, "")
			does(t, "Join", p.Join(writer), api.OK)
			tells(t, p, 1, 1, data[read:])
			room := full - many + read
			if room > 0 {
				writes(t, p, bytes(70, 90), room)
			}
			reads(t, p, most, data[read:]+bytes(70, room))
			noRead(t, p, 1, api.ErrWait)
		}
	}
}
