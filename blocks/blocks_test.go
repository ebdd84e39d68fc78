package blocks_test

import (
	"slices"
	"strings"
	"testing"

	"conch/api"
	"conch/blocks"
)

// P11.1

func TestNew(t *testing.T) {
	for _, n := range []int{1, 2, 3, 64, 4095, 4096} {
		s := made(t, n)
		free(t, s, n)
		for b := range n {
			read(t, s, b+1, 0, 0, "", api.ErrNone)
		}
		for want := 1; want <= n; want++ {
			take(t, s, want, api.OK)
		}
		free(t, s, 0)
		take(t, s, 0, api.ErrSpace)
	}
}

func TestNewRefused(t *testing.T) {
	for _, n := range []int{0, -1, -2, -4096, least, 4097, 4098, 8192, most, 1 << 32, 1<<32 + 1} {
		if s, e := blocks.New(n); s != nil || e != api.ErrArg {
			t.Errorf("New(%d): %v, %d", n, s, int(e))
		}
	}
}

func TestNewTwice(t *testing.T) {
	a, b := made(t, 2), made(t, 2)
	take(t, a, 1, api.OK)
	write(t, a, 1, 0, "a", api.OK)
	free(t, b, 2)
	take(t, b, 1, api.OK)
	read(t, b, 1, 0, size, zeros, api.OK)
}

func TestNil(t *testing.T) {
	var s *blocks.Store
	take(t, s, 0, api.ErrNil)
	for _, b := range []int{least, -1, 0, 1, 2, most} {
		give(t, s, b, api.ErrNil)
		for _, at := range []int{least, -1, 0, size, size + 1, most} {
			read(t, s, b, at, 0, "", api.ErrNil)
			read(t, s, b, 0, at, "", api.ErrNil)
			write(t, s, b, at, "", api.ErrNil)
			write(t, s, b, at, "a", api.ErrNil)
		}
	}
	free(t, s, 0)
	if c := s.Copy(); c != nil {
		t.Errorf("Copy: %v", c)
	}
}

// A store that New didn't make has no blocks.
func TestUnmade(t *testing.T) {
	s := new(blocks.Store)
	for range 2 {
		free(t, s, 0)
		take(t, s, 0, api.ErrSpace)
		give(t, s, 1, api.ErrNone)
		read(t, s, 1, 0, 0, "", api.ErrNone)
		write(t, s, 1, 0, "", api.ErrNone)
		s = s.Copy()
	}
}

// P11.2

func TestExamples(t *testing.T) {
	s := made(t, 2)
	take(t, s, 1, api.OK)
	take(t, s, 2, api.OK)
	take(t, s, 0, api.ErrSpace)
	give(t, s, 1, api.OK)
	take(t, s, 1, api.OK)
	read(t, s, 1, 63, 1, "\x00", api.OK)
	read(t, s, 1, 64, 1, "", api.ErrArg)
}

func TestTakeLeast(t *testing.T) {
	for _, given := range [][]int{{1}, {5}, {3, 1}, {1, 3}, {5, 4, 3, 2, 1}, {4, 2, 5}, {2, 5, 1, 4}, {3, 5, 1, 2, 4}} {
		s := full(t, 5)
		for _, b := range given {
			give(t, s, b, api.OK)
		}
		free(t, s, len(given))
		for _, want := range slices.Sorted(slices.Values(given)) {
			take(t, s, want, api.OK)
		}
		take(t, s, 0, api.ErrSpace)
	}
}

// A block given back ahead of those that are free still is the next one, and one behind those that are taken is not.
func TestTakeBetween(t *testing.T) {
	s := made(t, 6)
	for want := 1; want <= 4; want++ {
		take(t, s, want, api.OK)
	}
	give(t, s, 3, api.OK)
	take(t, s, 3, api.OK)
	give(t, s, 2, api.OK)
	give(t, s, 1, api.OK)
	take(t, s, 1, api.OK)
	give(t, s, 1, api.OK)
	take(t, s, 1, api.OK)
	take(t, s, 2, api.OK)
	take(t, s, 5, api.OK)
	free(t, s, 1)
}

func TestTakeZero(t *testing.T) {
	s := full(t, 3)
	for b := 1; b <= 3; b++ {
		read(t, s, b, 0, size, zeros, api.OK)
		write(t, s, b, 0, strings.Repeat("\xff", size), api.OK)
	}
	give(t, s, 3, api.OK)
	give(t, s, 1, api.OK)
	take(t, s, 1, api.OK)
	take(t, s, 3, api.OK)
	read(t, s, 1, 0, size, zeros, api.OK)
	read(t, s, 2, 0, size, strings.Repeat("\xff", size), api.OK)
	read(t, s, 3, 0, size, zeros, api.OK)
}

// One byte alone, wherever it stands, is 0 again too.
func TestTakeZeroAtEach(t *testing.T) {
	s := full(t, 1)
	for at := range size {
		write(t, s, 1, at, "x", api.OK)
		give(t, s, 1, api.OK)
		take(t, s, 1, api.OK)
		read(t, s, 1, 0, size, zeros, api.OK)
	}
}

func TestTakeSpace(t *testing.T) {
	s := full(t, 2)
	write(t, s, 1, 0, "one", api.OK)
	write(t, s, 2, 61, "two", api.OK)
	was := shown(t, s, 2)
	for range 3 {
		take(t, s, 0, api.ErrSpace)
		if now := shown(t, s, 2); !slices.Equal(now, was) {
			t.Fatalf("%q; want %q", now, was)
		}
	}
}

func TestGive(t *testing.T) {
	s := made(t, 3)
	for _, b := range []int{least, -3, -2, -1, 0, 1, 2, 3, 4, most} {
		give(t, s, b, api.ErrNone)
	}
	free(t, s, 3)
	take(t, s, 1, api.OK)
	take(t, s, 2, api.OK)
	for _, b := range []int{least, -2, -1, 0, 3, 4, 5, most, 1 << 32, 1<<32 + 1} {
		give(t, s, b, api.ErrNone)
		free(t, s, 1)
	}
	give(t, s, 1, api.OK)
	free(t, s, 2)
	give(t, s, 1, api.ErrNone)
	free(t, s, 2)
	give(t, s, 2, api.OK)
	give(t, s, 2, api.ErrNone)
	free(t, s, 3)
	take(t, s, 1, api.OK)
}

// P11.3

func TestReadWriteNone(t *testing.T) {
	s := made(t, 4)
	for want := 1; want <= 3; want++ {
		take(t, s, want, api.OK)
	}
	give(t, s, 2, api.OK)
	write(t, s, 1, 0, "one", api.OK)
	write(t, s, 3, 0, "three", api.OK)
	was := shown(t, s, 4)
	for _, b := range []int{least, -4, -3, -1, 0, 2, 4, 5, 6, most, 1<<32 + 1} {
		// What is wrong with at and n as well is told only of a block that is taken.
		for _, at := range []int{least, -1, 0, 1, size, size + 1, most} {
			for _, n := range []int{least, -1, 0, 1, size, size + 1, most} {
				read(t, s, b, at, n, "", api.ErrNone)
			}
			for _, n := range []int{0, 1, size, size + 1} {
				write(t, s, b, at, strings.Repeat("x", n), api.ErrNone)
			}
		}
		if now := shown(t, s, 4); !slices.Equal(now, was) {
			t.Fatalf("block %d: %q; want %q", b, now, was)
		}
	}
}

func TestReadWriteArg(t *testing.T) {
	s := full(t, 2)
	text := strings.Repeat("0123456789abcdef", 4)
	write(t, s, 1, 0, text, api.OK)
	was := shown(t, s, 2)
	bounds := []int{least, least + 1, -size, -1, 0, 1, 63, 64, 65, 128, 1 << 31, 1 << 32, most - 64, most - 63, most - 1, most}
	for _, at := range bounds {
		for _, n := range bounds {
			if at >= 0 && n >= 0 && at <= size && n <= size && at+n <= size {
				read(t, s, 1, at, n, text[at:at+n], api.OK)
			} else {
				read(t, s, 1, at, n, "", api.ErrArg)
			}
		}
		for _, n := range []int{0, 1, 2, 63, 64, 65, 66, 128, 4096} {
			if at < 0 || at > size || n > size-at {
				write(t, s, 1, at, strings.Repeat("x", n), api.ErrArg)
			}
		}
		if now := shown(t, s, 2); !slices.Equal(now, was) {
			t.Fatalf("at %d: %q; want %q", at, now, was)
		}
	}
}

// Each at with each length that a block has room for, and with the first ones that it has not.
func TestReadWriteEach(t *testing.T) {
	s := full(t, 3)
	for at := 0; at <= size+1; at++ {
		for n := 0; n <= size+2; n++ {
			give(t, s, 2, api.OK)
			take(t, s, 2, api.OK)
			data := strings.Repeat("\xfe\x01z", 22)[:n]
			if at+n > size {
				write(t, s, 2, at, data, api.ErrArg)
				read(t, s, 2, at, n, "", api.ErrArg)
				read(t, s, 2, 0, size, zeros, api.OK)
				continue
			}
			write(t, s, 2, at, data, api.OK)
			read(t, s, 2, at, n, data, api.OK)
			read(t, s, 2, 0, size, zeros[:at]+data+zeros[at+n:], api.OK)
		}
	}
	read(t, s, 1, 0, size, zeros, api.OK)
	read(t, s, 3, 0, size, zeros, api.OK)
}

func TestNothing(t *testing.T) {
	s := full(t, 1)
	write(t, s, 1, 0, strings.Repeat("k", size), api.OK)
	for at := 0; at <= size; at++ {
		read(t, s, 1, at, 0, "", api.OK)
		write(t, s, 1, at, "", api.OK)
	}
	read(t, s, 1, size+1, 0, "", api.ErrArg)
	write(t, s, 1, size+1, "", api.ErrArg)
	read(t, s, 1, -1, 0, "", api.ErrArg)
	write(t, s, 1, -1, "", api.ErrArg)
	read(t, s, 1, 0, size, strings.Repeat("k", size), api.OK)
}

// Bytes are bytes: each of them comes back, and no character is made of them.
func TestBytes(t *testing.T) {
	s := full(t, 1)
	for c := range 256 {
		one := string([]byte{byte(c)})
		for _, at := range []int{0, 31, 63} {
			write(t, s, 1, at, one, api.OK)
			read(t, s, 1, at, 1, one, api.OK)
		}
	}
	write(t, s, 1, 10, "a\xc3\xa4\xff\x00b", api.OK)
	read(t, s, 1, 11, 1, "\xc3", api.OK)
	read(t, s, 1, 10, 6, "a\xc3\xa4\xff\x00b", api.OK)
}

func TestWriteOver(t *testing.T) {
	s := full(t, 1)
	write(t, s, 1, 2, "abcdef", api.OK)
	write(t, s, 1, 4, "XY", api.OK)
	read(t, s, 1, 0, 10, "\x00\x00abXYef\x00\x00", api.OK)
	write(t, s, 1, 0, "123", api.OK)
	read(t, s, 1, 0, 9, "123bXYef\x00", api.OK)
	write(t, s, 1, 7, "\x00", api.OK)
	read(t, s, 1, 0, 9, "123bXYe\x00\x00", api.OK)
}
