package inodes_test

import (
	"strings"
	"testing"

	"conch/api"
	"conch/inodes"
)

// P12.3

func TestRead(t *testing.T) {
	x := files(t, 1, 64, 1)
	text := strings.Repeat("0123456789abcdef", 9) // 144 bytes, two parts and a piece
	write(t, x, 1, 0, text, 144, api.OK)
	for at := range 150 {
		for _, n := range []int{0, 1, 2, 63, 64, 65, 128, 143, 144, 145, top, top + 1, most - 1, most} {
			from := min(at, 144)
			read(t, x, 1, at, n, text[from:from+min(n, 144-from)], api.OK)
		}
	}
	for _, at := range []int{top - 1, top, top + 1, most - 1, most} {
		for _, n := range []int{0, 1, top, most} {
			read(t, x, 1, at, n, "", api.OK)
		}
	}
	has(t, x, 1, text)
	free(t, x, 0, 61)
}

func TestReadRefused(t *testing.T) {
	x := files(t, 1, 1, 1)
	for _, text := range []string{"", "abc"} {
		write(t, x, 1, 0, text, len(text), api.OK)
		for _, wrong := range []int{-1, -2, -64, least} {
			for _, other := range []int{least, -1, 0, 1, 3, top, most} {
				read(t, x, 1, wrong, other, "", api.ErrArg)
				read(t, x, 1, other, wrong, "", api.ErrArg)
			}
		}
		has(t, x, 1, text)
	}
}

func TestReadNothing(t *testing.T) {
	x := files(t, 1, 1, 1)
	read(t, x, 1, 0, 0, "", api.OK)
	read(t, x, 1, 0, 1, "", api.OK)
	read(t, x, 1, most, most, "", api.OK)
	has(t, x, 1, "")
}

// Parts without a block have bytes 0, ahead of one that has a block, between two, and behind it; they take none.
func TestReadNoBlock(t *testing.T) {
	x := files(t, 1, 3, 1)
	cut(t, x, 1, 400, api.OK)
	has(t, x, 1, zeros(400))
	free(t, x, 0, 3)
	write(t, x, 1, 130, "b", 1, api.OK)
	write(t, x, 1, 260, "d", 1, api.OK)
	want := zeros(130) + "b" + zeros(129) + "d" + zeros(139)
	has(t, x, 1, want)
	for at := range 400 {
		read(t, x, 1, at, 70, want[at:min(400, at+70)], api.OK)
	}
	free(t, x, 0, 1)
}

func TestCut(t *testing.T) {
	text := strings.Repeat("x", 200) // parts 0 to 3
	for size := range 202 {
		x := files(t, 2, 5, 2)
		write(t, x, 1, 0, text, 200, api.OK)
		write(t, x, 2, 0, "other", 5, api.OK)
		cut(t, x, 1, size, api.OK)
		want := text[:min(size, 200)] + zeros(max(0, size-200))
		has(t, x, 1, want)
		free(t, x, 0, 4-(min(size, 200)+part-1)/part)
		tells(t, x, 1, inodes.File, size, 1)
		cut(t, x, 1, 300, api.OK)
		has(t, x, 1, (want + zeros(300))[:300])
		free(t, x, 0, 4-(min(size, 200)+part-1)/part)
		has(t, x, 2, "other")
	}
}

// Cut twice: what an earlier Cut left is not seen again, nor are bytes of another's block.
func TestCutAndGrow(t *testing.T) {
	x := files(t, 2, 2, 2)
	write(t, x, 1, 0, strings.Repeat("a", 128), 128, api.OK)
	cut(t, x, 1, 100, api.OK)
	cut(t, x, 1, 120, api.OK)
	has(t, x, 1, strings.Repeat("a", 100)+zeros(20))
	cut(t, x, 1, 65, api.OK)
	write(t, x, 1, 127, "z", 1, api.OK)
	has(t, x, 1, strings.Repeat("a", 65)+zeros(62)+"z")
	free(t, x, 0, 0)
	cut(t, x, 1, 64, api.OK)
	free(t, x, 0, 1)
	write(t, x, 2, 3, "b", 1, api.OK)
	has(t, x, 2, zeros(3)+"b")
	cut(t, x, 1, 128, api.OK)
	has(t, x, 1, strings.Repeat("a", 64)+zeros(64))
	free(t, x, 0, 0)
	cut(t, x, 1, 0, api.OK)
	has(t, x, 1, "")
	free(t, x, 0, 1)
	cut(t, x, 1, 1, api.OK)
	has(t, x, 1, zeros(1))
	free(t, x, 0, 1)
}

func TestCutSame(t *testing.T) {
	for _, size := range []int{0, 1, 63, 64, 65, 128, 129} {
		x := files(t, 1, 3, 1)
		text := strings.Repeat("y", size)
		write(t, x, 1, 0, text, size, api.OK)
		_, was := x.Free()
		cut(t, x, 1, size, api.OK)
		has(t, x, 1, text)
		free(t, x, 0, was)
	}
}

// A part that begins within the bytes keeps its block, even if nothing but bytes 0 is left of it.
func TestCutKeepsBlocks(t *testing.T) {
	x := files(t, 1, 2, 1)
	write(t, x, 1, 127, "q", 1, api.OK)
	free(t, x, 0, 1)
	cut(t, x, 1, 65, api.OK)
	has(t, x, 1, zeros(65))
	free(t, x, 0, 1)
	cut(t, x, 1, 128, api.OK)
	has(t, x, 1, zeros(128))
	free(t, x, 0, 1)
	cut(t, x, 1, 64, api.OK)
	free(t, x, 0, 2)
}

func TestCutEdges(t *testing.T) {
	x := files(t, 1, 64, 1)
	write(t, x, 1, 0, "abc", 3, api.OK)
	cut(t, x, 1, top, api.OK)
	has(t, x, 1, "abc"+zeros(top-3))
	free(t, x, 0, 63)
	for _, size := range []int{top + 1, top + 2, most - 1, most, 1 << 32, 1<<32 + 1} {
		cut(t, x, 1, size, api.ErrBig)
	}
	for _, size := range []int{-1, -2, -top, least + 1, least} {
		cut(t, x, 1, size, api.ErrArg)
	}
	has(t, x, 1, "abc"+zeros(top-3))
	write(t, x, 1, 0, strings.Repeat("z", top), top, api.OK)
	cut(t, x, 1, top, api.OK)
	has(t, x, 1, strings.Repeat("z", top))
	cut(t, x, 1, top-1, api.OK)
	cut(t, x, 1, top, api.OK)
	has(t, x, 1, strings.Repeat("z", top-1)+zeros(1))
	cut(t, x, 1, 0, api.OK)
	free(t, x, 0, 64)
}

// P12.4

func TestWrite(t *testing.T) {
	x := files(t, 2, 4, 2)
	write(t, x, 1, 0, "abcdef", 6, api.OK)
	has(t, x, 1, "abcdef")
	write(t, x, 1, 2, "XY", 2, api.OK)
	has(t, x, 1, "abXYef")
	write(t, x, 1, 4, "123", 3, api.OK)
	has(t, x, 1, "abXY123")
	write(t, x, 1, 7, "\x00\xff\n", 3, api.OK)
	has(t, x, 1, "abXY123\x00\xff\n")
	has(t, x, 2, "")
	free(t, x, 0, 3)
}

// Each place and each length, over the ends of parts; what stands around it stays.
func TestWriteAcross(t *testing.T) {
	for _, at := range []int{0, 1, 62, 63, 64, 65, 100, 127, 128, 129} {
		for _, n := range []int{1, 2, 63, 64, 65, 128, 129, 190} {
			x := files(t, 2, 10, 2)
			write(t, x, 2, 0, "other", 5, api.OK)
			data := strings.Repeat("d", n)
			write(t, x, 1, at, data, n, api.OK)
			has(t, x, 1, zeros(at)+data)
			free(t, x, 0, 9-((at+n-1)/part-at/part+1))
			write(t, x, 1, 0, strings.Repeat("e", 300), 300, api.OK)
			write(t, x, 1, at, data, n, api.OK)
			rest := max(0, 300-at-n)
			has(t, x, 1, strings.Repeat("e", at)+data+strings.Repeat("e", rest))
			has(t, x, 2, "other")
		}
	}
}

func TestWriteNothing(t *testing.T) {
	x := files(t, 2, 1, 2)
	write(t, x, 1, 0, "full", 4, api.OK)
	for i := 1; i <= 2; i++ {
		for _, at := range []int{0, 1, 4, 63, 64, top - 1, top, top + 1, most} {
			write(t, x, i, at, "", 0, api.OK)
		}
	}
	has(t, x, 1, "full")
	has(t, x, 2, "")
	free(t, x, 0, 0)
}

// A place below 0 is wrong whatever the data; it is named ahead of all that the data would come to.
func TestWriteBelow(t *testing.T) {
	x := files(t, 2, 1, 2)
	write(t, x, 1, 0, "full", 4, api.OK)
	for _, at := range []int{-1, -2, -64, -top, least + 1, least} {
		for i := 1; i <= 2; i++ {
			write(t, x, i, at, "", 0, api.ErrArg)
			write(t, x, i, at, "a", 0, api.ErrArg)
			write(t, x, i, at, strings.Repeat("a", top+1), 0, api.ErrArg)
		}
	}
	has(t, x, 1, "full")
	has(t, x, 2, "")
}

func TestWriteBig(t *testing.T) {
	x := files(t, 1, 64, 1)
	for _, at := range []int{top, top + 1, top + 64, 1 << 32, most - 1, most} {
		write(t, x, 1, at, "a", 0, api.ErrBig)
		write(t, x, 1, at, strings.Repeat("a", 200), 0, api.ErrBig)
	}
	has(t, x, 1, "")
	free(t, x, 0, 64)
	write(t, x, 1, top-1, "a", 1, api.OK)
	has(t, x, 1, zeros(top-1)+"a")
	free(t, x, 0, 63)
	write(t, x, 1, top-1, "bc", 1, api.OK)
	write(t, x, 1, top-3, "12345", 3, api.OK)
	has(t, x, 1, zeros(top-3)+"123")
	write(t, x, 1, 0, strings.Repeat("z", top+100), top, api.OK)
	has(t, x, 1, strings.Repeat("z", top))
	write(t, x, 1, top, "a", 0, api.ErrBig)
	free(t, x, 0, 0)
}

// A place that is too great is told ahead of there being no block.
func TestWriteBigAndNoSpace(t *testing.T) {
	x := files(t, 2, 1, 2)
	write(t, x, 1, 0, "full", 4, api.OK)
	write(t, x, 2, top, "a", 0, api.ErrBig)
	write(t, x, 2, top-1, "ab", 0, api.ErrSpace)
	write(t, x, 2, 0, "a", 0, api.ErrSpace)
	write(t, x, 1, 64, "a", 0, api.ErrSpace)
	write(t, x, 1, 200, "a", 0, api.ErrSpace)
	has(t, x, 1, "full")
	has(t, x, 2, "")
	free(t, x, 0, 0)
}

func TestWriteRunsOut(t *testing.T) {
	for blocks := 1; blocks <= 5; blocks++ {
		for _, at := range []int{0, 1, 60, 63, 64, 100} {
			x := files(t, 1, blocks, 1)
			room := blocks*part - at%part
			data := strings.Repeat("r", 400)
			write(t, x, 1, at, data, room, api.OK)
			has(t, x, 1, zeros(at)+data[:room])
			free(t, x, 0, 0)
			write(t, x, 1, at+room, "s", 0, api.ErrSpace)
			has(t, x, 1, zeros(at)+data[:room])
		}
	}
}

// A part that has a block is written, be none free; what is behind it without one ends the writing, even if a later part has one.
func TestWriteNoneFree(t *testing.T) {
	x := files(t, 1, 2, 1)
	write(t, x, 1, 0, "a", 1, api.OK)
	write(t, x, 1, 128, "c", 1, api.OK)
	free(t, x, 0, 0)
	write(t, x, 1, 64, "b", 0, api.ErrSpace)
	write(t, x, 1, 63, "12", 1, api.OK)
	write(t, x, 1, 0, strings.Repeat("d", 150), 64, api.OK)
	has(t, x, 1, strings.Repeat("d", 64)+zeros(64)+"c")
	write(t, x, 1, 127, "ef", 0, api.ErrSpace)
	write(t, x, 1, 128, "efg", 3, api.OK)
	write(t, x, 1, 190, "hijk", 2, api.OK)
	has(t, x, 1, strings.Repeat("d", 64)+zeros(64)+"efg"+zeros(59)+"hi")
}

// Behind the end: what is between has bytes 0, though its block had others, and parts between have no block.
func TestWriteBehind(t *testing.T) {
	x := files(t, 1, 3, 1)
	write(t, x, 1, 0, strings.Repeat("a", 60), 60, api.OK)
	cut(t, x, 1, 10, api.OK)
	write(t, x, 1, 50, "b", 1, api.OK)
	has(t, x, 1, strings.Repeat("a", 10)+zeros(40)+"b")
	free(t, x, 0, 2)
	write(t, x, 1, 3000, "c", 1, api.OK)
	has(t, x, 1, strings.Repeat("a", 10)+zeros(40)+"b"+zeros(2949)+"c")
	free(t, x, 0, 1)
	write(t, x, 1, top-1, "de", 1, api.OK)
	tells(t, x, 1, inodes.File, top, 1)
	free(t, x, 0, 0)
}

// Each kind has bytes alike.
func TestBytesOfKinds(t *testing.T) {
	x := made(t, 3, 3)
	for kind := inodes.File; kind <= inodes.Link; kind++ {
		node(t, x, kind, kind, api.OK)
		write(t, x, kind, 1, "k", 1, api.OK)
		has(t, x, kind, "\x00k")
		cut(t, x, kind, 1, api.OK)
		has(t, x, kind, "\x00")
		tells(t, x, kind, kind, 1, 0)
	}
	free(t, x, 0, 0)
}

// What was read is the caller's, what was written is the node's (R2).
func TestMemory(t *testing.T) {
	x := files(t, 1, 2, 1)
	data := []byte("kept across the end of a part, whose bytes are sixty-four, behind which others stand")
	want := string(data)
	write(t, x, 1, 0, string(data), len(data), api.OK)
	was, _ := x.Read(1, 0, top)
	copy(data, "gone")
	has(t, x, 1, want)
	write(t, x, 1, 0, strings.Repeat("g", 100), 100, api.OK)
	does(t, "Untie", x.Untie(1), api.OK)
	if was != want {
		t.Errorf("%q; want %q", was, want)
	}
}
