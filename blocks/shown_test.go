package blocks_test

import (
	"strings"
	"testing"

	"conch/api"
	"conch/blocks"
)

const (
	most  = int(^uint(0) >> 1)
	least = -most - 1
	size  = api.BlockSize
)

var zeros = strings.Repeat("\x00", size)

// made is a store of so many blocks, all free.
func made(t *testing.T, n int) *blocks.Store {
	t.Helper()
	s, e := blocks.New(n)
	if s == nil || e != api.OK {
		t.Fatalf("New(%d): %v, %d", n, s, int(e))
	}
	return s
}

// full is a store of so many blocks, all taken.
func full(t *testing.T, n int) *blocks.Store {
	t.Helper()
	s := made(t, n)
	for want := 1; want <= n; want++ {
		take(t, s, want, api.OK)
	}
	return s
}

func take(t *testing.T, s *blocks.Store, want int, wrong api.Errno) {
	t.Helper()
	if b, e := s.Take(); b != want || e != wrong {
		t.Fatalf("Take: %d, %d; want %d, %d", b, int(e), want, int(wrong))
	}
}

func give(t *testing.T, s *blocks.Store, b int, wrong api.Errno) {
	t.Helper()
	if e := s.Give(b); e != wrong {
		t.Fatalf("Give(%d): %d; want %d", b, int(e), int(wrong))
	}
}

func write(t *testing.T, s *blocks.Store, b, at int, data string, wrong api.Errno) {
	t.Helper()
	if e := s.Write(b, at, data); e != wrong {
		t.Fatalf("Write(%d, %d, %q): %d; want %d", b, at, data, int(e), int(wrong))
	}
}

func read(t *testing.T, s *blocks.Store, b, at, n int, want string, wrong api.Errno) {
	t.Helper()
	if data, e := s.Read(b, at, n); data != want || e != wrong {
		t.Fatalf("Read(%d, %d, %d): %q, %d; want %q, %d", b, at, n, data, int(e), want, int(wrong))
	}
}

func free(t *testing.T, s *blocks.Store, want int) {
	t.Helper()
	if n := s.Free(); n != want {
		t.Fatalf("Free: %d; want %d", n, want)
	}
}

// shown is all that a store of n blocks tells: of each taken block its bytes, of each free one nothing.
func shown(t *testing.T, s *blocks.Store, n int) []string {
	t.Helper()
	out := make([]string, n)
	taken := 0
	for b := range n {
		data, e := s.Read(b+1, 0, size)
		switch {
		case e == api.OK && len(data) == size:
			out[b] = data
			taken++
		case e != api.ErrNone || data != "":
			t.Fatalf("Read(%d, 0, %d): %q, %d", b+1, size, data, int(e))
		}
	}
	free(t, s, n-taken)
	return out
}
