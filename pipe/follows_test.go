package pipe_test

import (
	"fmt"
	"math/rand"
	"strings"
	"testing"

	"conch/api"
	"conch/pipe"
)

// P15.4, the examples, and all of the promises at once, against a model.

func TestExamples(t *testing.T) {
	p, data := pipe.New(), bytes('0', 70)
	writes(t, p, data, 64)
	noWrite(t, p, "x", api.ErrWait)
	reads(t, p, 3, data[:3])
	writes(t, p, "xyz!", 3)
	reads(t, p, 99, data[3:64]+"xyz")
}

// Bytes of every value, at every place of the ring.
func TestEveryByte(t *testing.T) {
	p := pipe.New()
	for gone := range full + 1 {
		for b := range 256 {
			one := string([]byte{byte(b)})
			writes(t, p, one, 1)
			reads(t, p, 1, one)
		}
		writes(t, p, bytes(gone, 1), 1)
		reads(t, p, 1, bytes(gone, 1))
	}
	for _, b := range []byte{0, 255, '\n', 0x80} {
		all := strings.Repeat(string([]byte{b}), full)
		writes(t, p, all, full)
		reads(t, p, full, all)
	}
}

// Whatever the pieces, what is read is what was written; then one waits, and with the last writer gone there is nothing.
func TestPieces(t *testing.T) {
	text := strings.Repeat(bytes(0, 256), 3)
	for one := 1; one < 140; one += 3 {
		for other := 1; other < 140; other += 5 {
			p, in, out := pipe.New(), 0, ""
			for len(out) < len(text) {
				n, e := p.Write(text[in:min(len(text), in+one)])
				if n != min(one, len(text)-in, full-(in-len(out))) || e != api.OK {
					t.Fatalf("%d, %d: %d, %d", one, other, n, int(e))
				}
				in += n
				data, e := p.Read(other)
				if len(data) != min(other, in-len(out)) || e != api.OK {
					t.Fatalf("%d, %d: %q, %d", one, other, data, int(e))
				}
				out += data
				tells(t, p, 1, 1, text[len(out):in])
			}
			if out != text {
				t.Fatalf("%d, %d: %q", one, other, out)
			}
			noRead(t, p, other, api.ErrWait)
			does(t, "Leave", p.Leave(writer), api.OK)
			reads(t, p, other, "")
		}
	}
}

// What was answered stays as it was, whatever comes to stand in the ring.
func TestAnswersStay(t *testing.T) {
	p := pipe.New()
	var got []string
	for i := range 20 {
		writes(t, p, bytes(i, full), full)
		data, _ := p.Read(full)
		got = append(got, data)
	}
	for i, data := range got {
		if data != bytes(i, full) {
			t.Fatalf("%d: %q", i, data)
		}
	}
}

// A copy goes on as what it is a copy of, and minds nothing that happens to it.
func TestCopy(t *testing.T) {
	p := made(t, 2, 2, bytes(0, 50))
	other := *p
	reads(t, p, 20, bytes(0, 20))
	writes(t, p, bytes(50, 40), 34)
	does(t, "Leave", p.Leave(reader), api.OK)
	tells(t, &other, 2, 2, bytes(0, 50))
	reads(t, &other, 20, bytes(0, 20))
	writes(t, &other, bytes(50, 40), 34)
	tells(t, &other, 2, 2, bytes(20, 64))
	tells(t, p, 1, 2, bytes(20, 64))
}

// model is what a pipe is to be, done plainly: what was written and what of it was taken out.
type model struct {
	data             string
	readers, writers int
	next             int // the value of the byte that is written next
}

// answer is what a call told.
type answer struct {
	data string
	n    int
	e    api.Errno
}

func (m *model) read(n int) answer {
	switch {
	case m.readers == 0:
		return answer{e: api.ErrFd}
	case n < 0:
		return answer{e: api.ErrArg}
	case m.data != "":
		n = min(n, len(m.data))
		out := m.data[:n]
		m.data = m.data[n:]
		return answer{data: out}
	case m.writers == 0 || n == 0:
		return answer{}
	}
	return answer{e: api.ErrWait}
}

func (m *model) write(data string) answer {
	switch {
	case m.writers == 0:
		return answer{e: api.ErrFd}
	case m.readers == 0:
		return answer{n: len(data)}
	case data == "":
		return answer{}
	case len(m.data) == 64:
		return answer{e: api.ErrWait}
	}
	was := len(m.data)
	m.data += data
	m.data = m.data[:min(len(m.data), 64)]
	return answer{n: len(m.data) - was}
}

func (m *model) leave(writes bool) answer {
	switch {
	case writes && m.writers > 0:
		m.writers--
	case !writes && m.readers > 1:
		m.readers--
	case !writes && m.readers == 1:
		m.readers, m.data = 0, ""
	default:
		return answer{e: api.ErrFd}
	}
	return answer{}
}

// call is a call of a pipe: n is of Read, and of Write how many bytes.
type call struct {
	name   string
	n      int
	writes bool
}

func (c call) String() string { return fmt.Sprintf("%s(%d, %t)", c.name, c.n, c.writes) }

// do has both do a call, and answers what they told.
func (c call) do(p *pipe.Pipe, m *model) (answer, answer) {
	switch c.name {
	case "Read":
		data, e := p.Read(c.n)
		return answer{data: data, e: e}, m.read(c.n)
	case "Write":
		data := bytes(m.next, c.n)
		n, e := p.Write(data)
		m.next += n
		return answer{n: n, e: e}, m.write(data)
	case "Join":
		e := p.Join(c.writes)
		if c.writes {
			m.writers++
		} else {
			m.readers++
		}
		return answer{e: e}, answer{}
	}
	return answer{e: p.Leave(c.writes)}, m.leave(c.writes)
}

// step does a call of both, and holds all that is told then.
func step(t *testing.T, did []call, p *pipe.Pipe, m *model) {
	t.Helper()
	got, want := did[len(did)-1].do(p, m)
	r, w := p.Users()
	if got != want || r != m.readers || w != m.writers || p.Len() != len(m.data) || inside(p) != m.data {
		t.Fatalf("%v: %v, %d, %d, %q; want %v, %d, %d, %q", did, got, r, w, inside(p), want, m.readers, m.writers, m.data)
	}
}

// Each row of five of these calls, of a new pipe and of one that is turned and nearly full.
func TestRows(t *testing.T) {
	all := []call{
		{name: "Read", n: -1}, {name: "Read", n: 0}, {name: "Read", n: 1}, {name: "Read", n: 40}, {name: "Read", n: most},
		{name: "Write", n: 0}, {name: "Write", n: 1}, {name: "Write", n: 40}, {name: "Write", n: 64}, {name: "Write", n: 200},
		{name: "Join"}, {name: "Join", writes: true}, {name: "Leave"}, {name: "Leave", writes: true},
	}
	var rows func(did []call, p pipe.Pipe, m model)
	rows = func(did []call, p pipe.Pipe, m model) {
		if len(did) == 5 {
			return
		}
		for _, c := range all {
			q, of, now := p, m, append(did[:len(did):len(did)], c)
			step(t, now, &q, &of)
			rows(now, q, of)
		}
	}
	rows(nil, *pipe.New(), model{readers: 1, writers: 1})
	rows(nil, *turned(t, 35, bytes(200, 62)), model{data: bytes(200, 62), readers: 1, writers: 1, next: 6})
}

// Long rows by a fixed seed, in which there is mostly a reader and a writer.
func TestLongRows(t *testing.T) {
	by := rand.New(rand.NewSource(15))
	for range 200 {
		p, m := pipe.New(), &model{readers: 1, writers: 1}
		for range 2000 {
			c := call{name: []string{"Read", "Write"}[by.Intn(2)], n: by.Intn(80)}
			switch {
			case c.name == "Read" && by.Intn(20) == 0:
				c.n = []int{-1, 0, least, most}[by.Intn(4)]
			case by.Intn(20) == 0:
				c = call{name: []string{"Join", "Leave"}[by.Intn(2)], writes: by.Intn(2) == 0}
			case m.readers == 0 || m.writers == 0:
				c = call{name: "Join", writes: m.writers == 0}
			}
			step(t, []call{c}, p, m)
		}
	}
}
