package blocks_test

import (
	"slices"
	"testing"

	"conch/api"
	"conch/blocks"
)

// P11.4

// half is a store of 4 blocks, of which 1 and 3 are taken and written.
func half(t *testing.T) *blocks.Store {
	t.Helper()
	s := made(t, 4)
	for want := 1; want <= 3; want++ {
		take(t, s, want, api.OK)
	}
	give(t, s, 2, api.OK)
	write(t, s, 1, 0, "first", api.OK)
	write(t, s, 3, 60, "last", api.OK)
	return s
}

func TestCopyHasTheSame(t *testing.T) {
	s := half(t)
	c := s.Copy()
	if c == nil || c == s {
		t.Fatalf("Copy: %v", c)
	}
	if was, now := shown(t, s, 4), shown(t, c, 4); !slices.Equal(was, now) {
		t.Fatalf("%q; want %q", now, was)
	}
	take(t, c, 2, api.OK)
	take(t, c, 4, api.OK)
	take(t, c, 0, api.ErrSpace)
	read(t, c, 4, 0, size, zeros, api.OK)
	give(t, c, 5, api.ErrNone)
}

// Whatever is done to the one, the other one tells as before, and goes on as before.
func TestCopyMindsNothing(t *testing.T) {
	for name, do := range map[string]func(s *blocks.Store){
		"take":  func(s *blocks.Store) { take(t, s, 2, api.OK) },
		"takes": func(s *blocks.Store) { take(t, s, 2, api.OK); take(t, s, 4, api.OK) },
		"give":  func(s *blocks.Store) { give(t, s, 1, api.OK) },
		"gives": func(s *blocks.Store) { give(t, s, 1, api.OK); give(t, s, 3, api.OK) },
		"write": func(s *blocks.Store) { write(t, s, 3, 0, "other", api.OK) },
		"again": func(s *blocks.Store) { give(t, s, 1, api.OK); take(t, s, 1, api.OK); write(t, s, 1, 0, "new", api.OK) },
	} {
		for _, way := range []string{"the copy", "what was copied", "the copy of a copy"} {
			one := half(t)
			two := one.Copy()
			switch way {
			case "what was copied":
				one, two = two, one
			case "the copy of a copy":
				two = two.Copy()
			}
			was := shown(t, one, 4)
			do(two)
			if slices.Equal(shown(t, two, 4), was) {
				t.Errorf("%s to %s: nothing was done", name, way)
			}
			if now := shown(t, one, 4); !slices.Equal(now, was) {
				t.Errorf("%s to %s: %q; want %q", name, way, now, was)
			}
			take(t, one, 2, api.OK)
			read(t, one, 2, 0, size, zeros, api.OK)
			take(t, one, 4, api.OK)
			take(t, one, 0, api.ErrSpace)
		}
	}
}

func TestCopyOfNew(t *testing.T) {
	s := made(t, 2)
	c := s.Copy()
	take(t, s, 1, api.OK)
	write(t, s, 1, 0, "s", api.OK)
	free(t, c, 2)
	take(t, c, 1, api.OK)
	read(t, c, 1, 0, size, zeros, api.OK)
	take(t, c, 2, api.OK)
	free(t, s, 1)
}

func TestCopyOfFull(t *testing.T) {
	s := full(t, 4096)
	write(t, s, 4096, 63, "e", api.OK)
	c := s.Copy()
	give(t, s, 4096, api.OK)
	free(t, c, 0)
	read(t, c, 4096, 63, 1, "e", api.OK)
	take(t, c, 0, api.ErrSpace)
}

// What was read is the caller's: nothing that is done later changes it.
func TestReadStays(t *testing.T) {
	s := full(t, 1)
	write(t, s, 1, 0, "kept", api.OK)
	was, _ := s.Read(1, 0, 4)
	write(t, s, 1, 0, "gone", api.OK)
	give(t, s, 1, api.OK)
	if was != "kept" {
		t.Errorf("%q", was)
	}
}

// What was written is the store's: nothing that its giver does later changes it.
func TestWriteStays(t *testing.T) {
	s := full(t, 1)
	data := []byte("kept")
	write(t, s, 1, 0, string(data), api.OK)
	copy(data, "gone")
	read(t, s, 1, 0, 4, "kept", api.OK)
}
