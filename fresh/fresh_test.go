package fresh_test

import (
	"fmt"
	"slices"
	"testing"

	"cellarman/api"
	"cellarman/book"
	"cellarman/fresh"
	"cellarman/mesh"
)

const mark = 77

// behind: l with spare room behind it that holds these.
func behind[T any](l []T, spare ...T) []T { return append(slices.Clone(l), spare...)[:len(l)] }

// shared: a mesh, and one that is none, of lists with spare room, some of which
// are one list.
func shared() api.Mesh {
	one := behind([]int{0, 1, 2}, mark)
	v := behind([]api.Version{{P: api.Plan{Need: 1, Of: 3, Size: 3}}, {Parents: one, P: api.Plan{Need: -4}}, {Parents: one}}, api.Version{Parents: one})
	k := behind([]api.Kept{{Version: 2, S: api.Share{N: 1, Values: one}}, {Version: -3}, {S: api.Share{N: 40, Values: one[:1]}}}, api.Kept{Version: mark})
	p := behind([]api.Peer{{There: true, Room: 2, K: k}, {Room: -1, K: k[1:]}, {There: true}}, api.Peer{Room: mark, K: k})
	return api.Mesh{B: api.Book{V: v}, P: p}
}

// numbers: each list of them in m, and how it is called.
func numbers(m *api.Mesh, ask func(what string, l *[]int)) {
	for k := range m.B.V {
		ask(fmt.Sprint("parents of ", k), &m.B.V[k].Parents)
	}
	for n := range m.P {
		for i := range m.P[n].K {
			ask(fmt.Sprint("values of ", n, " at ", i), &m.P[n].K[i].S.Values)
		}
	}
}

// fill: all that is in m, and in the spare room behind, is another thing; each
// list of numbers holds its own.
func fill(m *api.Mesh) {
	next := 1000
	numbers(m, func(_ string, l *[]int) {
		next++
		for i := range cap(*l) {
			(*l)[:cap(*l)][i] = next
		}
	})
}

// TestAlike: whatever is in it.
func TestAlike(t *testing.T) {
	for _, m := range []api.Mesh{{}, shared(), {B: shared().B}, {P: shared().P}, {P: make([]api.Peer, 9)}} {
		if c := fresh.Mesh(m); !mesh.Same(c, m) {
			t.Errorf("Mesh(%v): %v", m, c)
		}
		if c := fresh.Book(m.B); !book.Same(c, m.B) {
			t.Errorf("Book(%v): %v", m.B, c)
		}
		for _, v := range m.B.V {
			if c := fresh.Version(v); c.P != v.P || !slices.Equal(c.Parents, v.Parents) {
				t.Errorf("Version(%v): %v", v, c)
			}
		}
		for _, p := range m.P {
			for _, k := range p.K {
				if c := fresh.Kept(k); c.Version != k.Version || c.S.N != k.S.N || !slices.Equal(c.S.Values, k.S.Values) {
					t.Errorf("Kept(%v): %v", k, c)
				}
			}
		}
	}
}

// TestNewMemory: whatever is written into a copy, nothing else is changed.
func TestNewMemory(t *testing.T) {
	m := shared()
	c := fresh.Mesh(m)
	b := fresh.Book(m.B)
	v, k := fresh.Version(m.B.V[1]), fresh.Kept(m.P[0].K[0])
	fill(&c)
	next := 1000
	numbers(&c, func(what string, l *[]int) {
		next++
		if slices.ContainsFunc(*l, func(v int) bool { return v != next }) {
			t.Errorf("%s are shared with others of one copy", what)
		}
	})
	for n := range c.P {
		for i := range c.P[n].K {
			c.P[n].K[i].Version = 10*n + i
		}
	}
	for n := range c.P {
		for i, k := range c.P[n].K {
			if k.Version != 10*n+i {
				t.Errorf("what %d keeps is shared with other peers of one copy", n)
			}
		}
	}
	clear(c.B.V[:cap(c.B.V)])
	clear(c.P[:cap(c.P)])
	fill(&api.Mesh{B: b})
	clear(b.V[:cap(b.V)])
	v.Parents[0], k.S.Values[0] = mark, mark
	if got, want := fmt.Sprint(m, m.B.V[:4], m.P[:4]), fmt.Sprint(shared(), shared().B.V[:4], shared().P[:4]); got != want {
		t.Errorf("what was copied is changed: %s, want %s", got, want)
	}
}
