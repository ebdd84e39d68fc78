package blocks_test

import (
	"math/rand"
	"slices"
	"strings"
	"testing"

	"conch/api"
	"conch/blocks"
)

// P11.5, and all of the promises at once, against a list of what each taken block has.

// model is what a store of len(has) blocks is to tell: of a free block nothing, of a taken one its bytes.
type model struct{ has []string }

func (m *model) take() (int, api.Errno) {
	for i, data := range m.has {
		if data == "" {
			m.has[i] = zeros
			return i + 1, api.OK
		}
	}
	return 0, api.ErrSpace
}

func (m *model) taken(b int) bool { return b >= 1 && b <= len(m.has) && m.has[b-1] != "" }

func (m *model) give(b int) api.Errno {
	if !m.taken(b) {
		return api.ErrNone
	}
	m.has[b-1] = ""
	return api.OK
}

func (m *model) write(b, at int, data string) api.Errno {
	if !m.taken(b) {
		return api.ErrNone
	}
	if at < 0 || float64(at)+float64(len(data)) > size {
		return api.ErrArg
	}
	was := m.has[b-1]
	m.has[b-1] = was[:at] + data + was[at+len(data):]
	return api.OK
}

func (m *model) copied() *model { return &model{slices.Clone(m.has)} }

// pair is a store and what it is to tell.
type pair struct {
	s *blocks.Store
	m *model
}

func (p pair) copied() pair { return pair{p.s.Copy(), p.m.copied()} }

// check holds all that the store tells against the model.
func (p pair) check(t *testing.T, did string) {
	t.Helper()
	if now := shown(t, p.s, len(p.m.has)); !slices.Equal(now, p.m.has) {
		t.Fatalf("%s: %q; want %q", did, now, p.m.has)
	}
}

// steps are calls that change a store, or are refused.
func steps(n int) map[string]func(t *testing.T, p pair) {
	out := map[string]func(t *testing.T, p pair){
		"take": func(t *testing.T, p pair) {
			b, e := p.m.take()
			take(t, p.s, b, e)
		},
	}
	for b := 0; b <= n+1; b++ {
		name := string(rune('0' + b))
		out["give "+name] = func(t *testing.T, p pair) { give(t, p.s, b, p.m.give(b)) }
		out["write "+name] = func(t *testing.T, p pair) { write(t, p.s, b, 62, "x"+name, p.m.write(b, 62, "x"+name)) }
		out["over "+name] = func(t *testing.T, p pair) { write(t, p.s, b, 63, "yz", p.m.write(b, 63, "yz")) }
	}
	return out
}

// Each row of calls, one behind the other, of a store of two blocks; a copy of it at each place of the row stays as it is there.
func TestRows(t *testing.T) {
	all := steps(2)
	names := make([]string, 0, len(all))
	for name := range all {
		names = append(names, name)
	}
	slices.Sort(names)
	var walk func(p pair, did string, left int)
	walk = func(p pair, did string, left int) {
		if left == 0 {
			return
		}
		for _, name := range names {
			next := p.copied()
			all[name](t, next)
			next.check(t, did+"; "+name)
			walk(next, did+"; "+name, left-1)
		}
		p.check(t, did+", with all that its copies did")
	}
	walk(pair{made(t, 2), &model{make([]string, 2)}}, "new", 4)
}

// Long rows by a fixed seed, over several stores that are copies of one another.
func TestLongRows(t *testing.T) {
	r := rand.New(rand.NewSource(11))
	for _, n := range []int{1, 2, 3, 7, 40} {
		all := []pair{{made(t, n), &model{make([]string, n)}}}
		for range 4000 {
			i := r.Intn(len(all))
			p := all[i]
			b, at := r.Intn(n+3)-1, r.Intn(70)-3
			switch k := r.Intn(10); {
			case k < 3:
				b, e := p.m.take()
				take(t, p.s, b, e)
			case k < 5:
				give(t, p.s, b, p.m.give(b))
			case k < 8:
				data := strings.Repeat(string([]byte{byte(r.Intn(256))}), r.Intn(20))
				write(t, p.s, b, at, data, p.m.write(b, at, data))
			case k < 9 && len(all) < 4:
				all = append(all, p.copied())
			default:
				all[r.Intn(len(all))] = p.copied()
			}
			for _, p := range all {
				p.check(t, "a long row")
			}
		}
	}
}

// Taken till none is free, from every block given back or not: no block twice, and with the free ones they are all there are.
func TestNoneTwice(t *testing.T) {
	const n = 10
	for set := range 1 << n {
		s := full(t, n)
		var given []int
		for b := n; b >= 1; b-- {
			if set>>(b-1)&1 == 1 {
				give(t, s, b, api.OK)
				given = append(given, b)
			}
		}
		slices.Sort(given)
		for i, want := range given {
			free(t, s, len(given)-i)
			take(t, s, want, api.OK)
		}
		free(t, s, 0)
		take(t, s, 0, api.ErrSpace)
	}
}

// A block's bytes are its own, be there as many blocks as there may be.
func TestNoOtherBlock(t *testing.T) {
	const n = 4096
	s := full(t, n)
	text := func(b int) string { return strings.Repeat(string([]byte{byte(b), byte(b >> 8)}), size/2) }
	for b := 1; b <= n; b++ {
		write(t, s, b, 0, text(b), api.OK)
	}
	for b := n; b >= 1; b-- {
		read(t, s, b, 0, size, text(b), api.OK)
	}
	for b := 2; b <= n; b += 2 {
		give(t, s, b, api.OK)
	}
	free(t, s, n/2)
	for b := 1; b <= n; b += 2 {
		read(t, s, b, 0, size, text(b), api.OK)
	}
	for b := 2; b <= n; b += 2 {
		take(t, s, b, api.OK)
		read(t, s, b, 0, size, zeros, api.OK)
	}
}

// The same calls of a new store answer the same (R3).
func TestAgain(t *testing.T) {
	row := func() []string {
		s := made(t, 5)
		for range 4 {
			s.Take()
		}
		s.Give(3)
		s.Give(1)
		s.Write(2, 10, "again")
		s.Take()
		return shown(t, s, 5)
	}
	if a, b := row(), row(); !slices.Equal(a, b) {
		t.Errorf("%q; then %q", a, b)
	}
}
