package inodes_test

import (
	"slices"
	"testing"

	"conch/api"
	"conch/inodes"
)

// P12.1

func TestKinds(t *testing.T) {
	if inodes.File != 1 || inodes.Dir != 2 || inodes.Link != 3 {
		t.Error(inodes.File, inodes.Dir, inodes.Link)
	}
}

func TestNew(t *testing.T) {
	for _, nodes := range []int{1, 2, 1023, 1024} {
		for _, blocks := range []int{1, 2, 4095, 4096} {
			x := made(t, nodes, blocks)
			free(t, x, nodes, blocks)
			for i := range nodes + 2 {
				tells(t, x, i, 0, 0, 0)
			}
			for want := 1; want <= nodes; want++ {
				node(t, x, 1+want%3, want, api.OK)
			}
			node(t, x, inodes.File, 0, api.ErrNodes)
			free(t, x, 0, blocks)
		}
	}
}

func TestNewRefused(t *testing.T) {
	refused := func(nodes, blocks int) {
		t.Helper()
		if x, e := inodes.New(nodes, blocks); x != nil || e != api.ErrArg {
			t.Errorf("New(%d, %d): %v, %d", nodes, blocks, x, int(e))
		}
	}
	wrongNodes := []int{0, -1, -2, -1024, least, 1025, 1026, 4096, most, 1<<32 + 1}
	wrongBlocks := []int{0, -1, -2, -4096, least, 4097, 4098, most, 1<<32 + 1}
	for _, nodes := range wrongNodes {
		refused(nodes, 1)
		refused(nodes, 4096)
		for _, blocks := range wrongBlocks {
			refused(nodes, blocks)
			refused(1, blocks)
			refused(1024, blocks)
		}
	}
}

func TestNewTwice(t *testing.T) {
	a, b := files(t, 2, 2, 1), made(t, 2, 2)
	write(t, a, 1, 0, "a", 1, api.OK)
	free(t, b, 2, 2)
	none(t, b, 1, api.ErrNone)
	node(t, b, inodes.Dir, 1, api.OK)
	has(t, b, 1, "")
	has(t, a, 1, "a")
}

func TestNil(t *testing.T) {
	var x *inodes.Table
	for _, kind := range []int{least, -1, 0, 1, 2, 3, 4, most} {
		node(t, x, kind, 0, api.ErrNil)
	}
	for _, i := range []int{least, -1, 0, 1, 2, most} {
		none(t, x, i, api.ErrNil)
	}
	free(t, x, 0, 0)
	if c := x.Copy(); c != nil {
		t.Errorf("Copy: %v", c)
	}
}

// A table that New didn't make may have no nodes.
func TestUnmade(t *testing.T) {
	x := new(inodes.Table)
	for range 2 {
		free(t, x, 0, 0)
		node(t, x, inodes.File, 0, api.ErrNodes)
		node(t, x, 0, 0, api.ErrArg)
		none(t, x, 1, api.ErrNone)
		x = x.Copy()
	}
}

func TestMake(t *testing.T) {
	x := made(t, 3, 5)
	for kind := inodes.File; kind <= inodes.Link; kind++ {
		node(t, x, kind, kind, api.OK)
		tells(t, x, kind, kind, 0, 0)
		has(t, x, kind, "")
		does(t, "Untie", x.Untie(kind), api.ErrNone)
		does(t, "Loose", x.Loose(kind), api.ErrNone)
		tells(t, x, kind, kind, 0, 0)
		free(t, x, 3-kind, 5)
	}
}

// Of a kind that is none, and of as many nodes as may be, the kind is named first.
func TestMakeRefused(t *testing.T) {
	x := made(t, 1, 1)
	for range 2 {
		for _, kind := range []int{least, -1, 0, 4, 5, most, 1<<32 + 1} {
			node(t, x, kind, 0, api.ErrArg)
		}
		free(t, x, 1, 1)
		node(t, x, inodes.Link, 1, api.OK)
		for _, kind := range []int{least, -1, 0, 4, most} {
			node(t, x, kind, 0, api.ErrArg)
		}
		for kind := inodes.File; kind <= inodes.Link; kind++ {
			node(t, x, kind, 0, api.ErrNodes)
		}
		tells(t, x, 1, inodes.Link, 0, 0)
		does(t, "Hold", x.Hold(1), api.OK)
		does(t, "Loose", x.Loose(1), api.OK)
	}
}

// A number is the least of those that no node has, in whatever order they came to have none.
func TestMakeLeast(t *testing.T) {
	for _, gone := range [][]int{{1}, {5}, {3, 1}, {1, 3}, {5, 4, 3, 2, 1}, {4, 2, 5}, {2, 5, 1, 4}, {3, 5, 1, 2, 4}} {
		x := files(t, 5, 5, 5)
		for _, i := range gone {
			write(t, x, i, 10, "old", 3, api.OK)
			does(t, "Untie", x.Untie(i), api.OK)
			none(t, x, i, api.ErrNone)
		}
		free(t, x, len(gone), 5)
		for _, want := range slices.Sorted(slices.Values(gone)) {
			node(t, x, inodes.Dir, want, api.OK)
			tells(t, x, want, inodes.Dir, 0, 0)
			has(t, x, want, "")
		}
		node(t, x, inodes.File, 0, api.ErrNodes)
		free(t, x, 0, 5)
	}
}

func TestNone(t *testing.T) {
	x := files(t, 3, 2, 2)
	write(t, x, 1, 0, "one", 3, api.OK)
	was := shown(t, x, 3)
	for _, i := range []int{least, least + 1, -2, -1, 0, 3, 4, 5, 1024, 1025, 1<<32 + 1, most} {
		none(t, x, i, api.ErrNone)
	}
	if now := shown(t, x, 3); now != was {
		t.Errorf("%s; want %s", now, was)
	}
}

// P12.2

func TestExamples(t *testing.T) {
	x := made(t, 2, 2)
	node(t, x, inodes.File, 1, api.OK)
	write(t, x, 1, 100, "x", 1, api.OK)
	tells(t, x, 1, inodes.File, 101, 0)
	free(t, x, 1, 1)
	does(t, "Tie", x.Tie(1), api.OK)
	does(t, "Untie", x.Untie(1), api.OK)
	none(t, x, 1, api.ErrNone)
	free(t, x, 2, 2)
}

func TestTies(t *testing.T) {
	x := made(t, 2, 1)
	node(t, x, inodes.Dir, 1, api.OK)
	node(t, x, inodes.File, 2, api.OK)
	for n := 1; n <= 5; n++ {
		does(t, "Tie", x.Tie(1), api.OK)
		tells(t, x, 1, inodes.Dir, 0, n)
		tells(t, x, 2, inodes.File, 0, 0)
	}
	for n := 4; n >= 1; n-- {
		does(t, "Untie", x.Untie(1), api.OK)
		tells(t, x, 1, inodes.Dir, 0, n)
	}
	does(t, "Loose", x.Loose(1), api.ErrNone)
	does(t, "Untie", x.Untie(1), api.OK)
	none(t, x, 1, api.ErrNone)
	tells(t, x, 2, inodes.File, 0, 0)
	free(t, x, 1, 1)
}

func TestHolds(t *testing.T) {
	x := made(t, 2, 1)
	node(t, x, inodes.Dir, 1, api.OK)
	node(t, x, inodes.File, 2, api.OK)
	for n := 1; n <= 5; n++ {
		does(t, "Hold", x.Hold(1), api.OK)
		tells(t, x, 1, inodes.Dir, 0, 0)
	}
	if n := users(t, x, 1); n != 5 || users(t, x, 2) != 0 {
		t.Error(n, users(t, x, 2))
	}
	does(t, "Untie", x.Untie(1), api.ErrNone)
	for range 4 {
		does(t, "Loose", x.Loose(1), api.OK)
		tells(t, x, 1, inodes.Dir, 0, 0)
	}
	does(t, "Loose", x.Loose(1), api.OK)
	none(t, x, 1, api.ErrNone)
	tells(t, x, 2, inodes.File, 0, 0)
	free(t, x, 1, 1)
}

// A node with a name or a user is there; only with the last of both it is no more.
func TestLastOfBoth(t *testing.T) {
	untie := func(x *inodes.Table) api.Errno { return x.Untie(1) }
	loose := func(x *inodes.Table) api.Errno { return x.Loose(1) }
	for name, row := range map[string][]func(x *inodes.Table) api.Errno{
		"names first": {untie, untie, loose, loose},
		"users first": {loose, loose, untie, untie},
		"by turns":    {untie, loose, untie, loose},
		"other turns": {loose, untie, loose, untie},
	} {
		x := made(t, 2, 3)
		node(t, x, inodes.Link, 1, api.OK)
		does(t, "Hold", x.Hold(1), api.OK)
		does(t, "Tie", x.Tie(1), api.OK)
		does(t, "Tie", x.Tie(1), api.OK)
		does(t, "Hold", x.Hold(1), api.OK)
		write(t, x, 1, 60, "across parts", 12, api.OK)
		for at, do := range row {
			if k := x.Kind(1); k != inodes.Link {
				t.Fatalf("%s, %d: kind %d", name, at, k)
			}
			has(t, x, 1, zeros(60)+"across parts")
			free(t, x, 1, 1)
			does(t, name, do(x), api.OK)
		}
		none(t, x, 1, api.ErrNone)
		free(t, x, 2, 3)
	}
}

// What a refused call would have done is not done: the node has as many names and users as before.
func TestRefusedCounts(t *testing.T) {
	x := made(t, 1, 1)
	node(t, x, inodes.File, 1, api.OK)
	for range 3 {
		does(t, "Untie", x.Untie(1), api.ErrNone)
		does(t, "Loose", x.Loose(1), api.ErrNone)
	}
	does(t, "Tie", x.Tie(1), api.OK)
	tells(t, x, 1, inodes.File, 0, 1)
	does(t, "Loose", x.Loose(1), api.ErrNone)
	does(t, "Hold", x.Hold(1), api.OK)
	does(t, "Untie", x.Untie(1), api.OK)
	does(t, "Untie", x.Untie(1), api.ErrNone)
	tells(t, x, 1, inodes.File, 0, 0)
	does(t, "Loose", x.Loose(1), api.OK)
	none(t, x, 1, api.ErrNone)
}

// A node made anew has nothing of the one that had its number.
func TestMadeAnew(t *testing.T) {
	x := files(t, 1, 2, 1)
	does(t, "Tie", x.Tie(1), api.OK)
	does(t, "Hold", x.Hold(1), api.OK)
	write(t, x, 1, 70, "old", 3, api.OK)
	for _, e := range []api.Errno{x.Untie(1), x.Untie(1), x.Loose(1)} {
		does(t, "row", e, api.OK)
	}
	node(t, x, inodes.Dir, 1, api.OK)
	tells(t, x, 1, inodes.Dir, 0, 0)
	does(t, "Untie", x.Untie(1), api.ErrNone)
	does(t, "Loose", x.Loose(1), api.ErrNone)
	cut(t, x, 1, 128, api.OK)
	has(t, x, 1, zeros(128))
	free(t, x, 0, 2)
}
