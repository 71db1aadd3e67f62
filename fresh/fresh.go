// Package fresh: whole copies, for answers that may share no list with what
// was handed in.
package fresh

import "cellarman/api"

// Mesh answers a copy of m, a mesh or not.
func Mesh(m api.Mesh) api.Mesh {
	c := api.Mesh{B: Book(m.B), P: make([]api.Peer, len(m.P))}
	for n, p := range m.P {
		c.P[n] = peer(p)
	}
	return c
}

// Book answers a copy of b, a book or not.
func Book(b api.Book) api.Book {
	c := api.Book{V: make([]api.Version, len(b.V))}
	for k, v := range b.V {
		c.V[k] = Version(v)
	}
	return c
}

// Version answers a copy of v.
func Version(v api.Version) api.Version {
	return api.Version{Parents: numbers(v.Parents), P: v.P}
}

// Kept answers a copy of k.
func Kept(k api.Kept) api.Kept {
	return api.Kept{Version: k.Version, S: api.Share{N: k.S.N, Values: numbers(k.S.Values)}}
}

func peer(p api.Peer) api.Peer {
	c := api.Peer{There: p.There, Room: p.Room, K: make([]api.Kept, len(p.K))}
	for i, k := range p.K {
		c.K[i] = Kept(k)
	}
	return c
}

func numbers(l []int) []int {
	c := make([]int, len(l))
	copy(c, l)
	return c
}
