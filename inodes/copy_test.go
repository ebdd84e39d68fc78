package inodes_test

import (
	"testing"

	"conch/api"
	"conch/inodes"
)

// P12.5

// half is a table of 4 nodes and 4 blocks: 1 has two names and two parts with a block, 2 is none, 3 has a user, 4 has neither.
func half(t *testing.T) *inodes.Table {
	t.Helper()
	x := files(t, 4, 4, 2)
	node(t, x, inodes.Dir, 3, api.OK)
	node(t, x, inodes.Link, 4, api.OK)
	does(t, "Tie", x.Tie(1), api.OK)
	does(t, "Hold", x.Hold(3), api.OK)
	write(t, x, 1, 0, "first", 5, api.OK)
	write(t, x, 1, 130, "third", 5, api.OK)
	write(t, x, 3, 60, "last", 4, api.OK)
	does(t, "Untie", x.Untie(2), api.OK)
	free(t, x, 1, 1)
	return x
}

// whole is all that a table of half's size tells, with the users.
func whole(t *testing.T, x *inodes.Table) string {
	t.Helper()
	out := shown(t, x, 4)
	for i := 1; i <= 4; i++ {
		out += " " + string(rune('0'+users(t, x, i)))
	}
	return out
}

func TestFree(t *testing.T) {
	x := half(t)
	node(t, x, inodes.File, 2, api.OK)
	free(t, x, 0, 1)
	write(t, x, 2, 0, "b", 1, api.OK)
	free(t, x, 0, 0)
	write(t, x, 2, 64, "b", 0, api.ErrSpace)
	free(t, x, 0, 0)
	cut(t, x, 1, 100, api.OK)
	free(t, x, 0, 1)
	does(t, "Loose", x.Loose(3), api.OK)
	free(t, x, 1, 2)
	does(t, "Untie", x.Untie(1), api.OK)
	free(t, x, 1, 2)
	does(t, "Untie", x.Untie(1), api.OK)
	free(t, x, 2, 3)
	does(t, "Hold", x.Hold(2), api.OK)
	does(t, "Loose", x.Loose(2), api.OK)
	free(t, x, 3, 4)
}

func TestCopyHasTheSame(t *testing.T) {
	x := half(t)
	c := x.Copy()
	if c == nil || c == x {
		t.Fatalf("Copy: %v", c)
	}
	if was, now := whole(t, x), whole(t, c); was != now {
		t.Fatalf("%s; want %s", now, was)
	}
	node(t, c, inodes.File, 2, api.OK)
	node(t, c, inodes.File, 0, api.ErrNodes)
	write(t, c, 2, 0, "b", 1, api.OK)
	write(t, c, 2, 64, "b", 0, api.ErrSpace)
	write(t, c, 1, 5, " byte", 5, api.OK)
	write(t, c, 1, 64, "b", 0, api.ErrSpace)
	does(t, "Tie", c.Tie(5), api.ErrNone)
}

// Whatever is done to the one, the other one tells as before, and goes on as before.
func TestCopyMindsNothing(t *testing.T) {
	for name, do := range map[string]func(x *inodes.Table){
		"make":       func(x *inodes.Table) { node(t, x, inodes.File, 2, api.OK) },
		"tie":        func(x *inodes.Table) { does(t, "Tie", x.Tie(1), api.OK) },
		"untie":      func(x *inodes.Table) { does(t, "Untie", x.Untie(1), api.OK) },
		"hold":       func(x *inodes.Table) { does(t, "Hold", x.Hold(4), api.OK) },
		"loose":      func(x *inodes.Table) { does(t, "Loose", x.Loose(3), api.OK) },
		"end":        func(x *inodes.Table) { x.Untie(1); x.Untie(1) },
		"end unused": func(x *inodes.Table) { x.Hold(4); x.Loose(4) },
		"write":      func(x *inodes.Table) { write(t, x, 1, 1, "other", 5, api.OK) },
		"take":       func(x *inodes.Table) { write(t, x, 1, 64, "other", 5, api.OK) },
		"longer":     func(x *inodes.Table) { write(t, x, 1, 135, "r", 1, api.OK) },
		"cut":        func(x *inodes.Table) { cut(t, x, 1, 3, api.OK) },
		"cut all":    func(x *inodes.Table) { cut(t, x, 3, 0, api.OK) },
		"grow":       func(x *inodes.Table) { cut(t, x, 4, top, api.OK) },
	} {
		for _, way := range []string{"the copy", "what was copied", "the copy of a copy"} {
			one := half(t)
			two := one.Copy()
			switch way {
			case "what was copied":
				one, two = two, one
			case "the copy of a copy":
				two = two.Copy()
			}
			was := whole(t, one)
			do(two)
			if whole(t, two) == was {
				t.Errorf("%s to %s: nothing was done", name, way)
			}
			if now := whole(t, one); now != was {
				t.Errorf("%s to %s: %s; want %s", name, way, now, was)
			}
			node(t, one, inodes.File, 2, api.OK)
			write(t, one, 2, 0, "n", 1, api.OK)
			write(t, one, 4, 0, "n", 0, api.ErrSpace)
			has(t, one, 1, "first"+zeros(125)+"third")
			has(t, one, 3, zeros(60)+"last")
		}
	}
}

func TestCopyOfNew(t *testing.T) {
	x := made(t, 2, 2)
	c := x.Copy()
	node(t, x, inodes.Dir, 1, api.OK)
	write(t, x, 1, 0, "x", 1, api.OK)
	free(t, c, 2, 2)
	none(t, c, 1, api.ErrNone)
	node(t, c, inodes.File, 1, api.OK)
	has(t, c, 1, "")
	free(t, x, 1, 1)
}
