package mesh

import (
	"math"
	"slices"
	"testing"

	"cellarman/api"
)

// small: the document's example, 5 7 9 by 2 of 3, in a mesh of four peers, the
// last of which keeps nothing.
func small() api.Mesh {
	m := with(empty(3, 3, 3, 3), api.Plan{Need: 2, Of: 3, Size: 3})
	give(&m, 0, 0, api.Share{N: 0, Values: []int{5, 9}})
	give(&m, 1, 0, api.Share{N: 1, Values: []int{7, 0}})
	give(&m, 2, 0, api.Share{N: 2, Values: []int{9, 22}})
	return m
}

func TestWrittenOut(t *testing.T) {
	data := []int{5, 7, 9}
	wantSave(t, "the document's example", empty(3, 3, 3, 3), data, nil, 2, 3, small())
	m := small()
	wantRestore(t, "all are there", m, 0, data)
	wantRepair(t, "all are there", m, 0, small())
	leave(&m, 1)
	wantRestore(t, "one left", m, 0, data)
	fixed := copied(m)
	give(&fixed, 3, 0, api.Share{N: 1, Values: []int{7, 0}})
	wantRepair(t, "one left", m, 0, fixed)
	leave(&m, 0)
	wantLost(t, "two left", m, 0, api.ErrShort)
	fixed.P[1].There = true
	was := small()
	wantRepair(t, "it came again", fixed, 0, was)
	held(was, 0, 0).Values[0] = 8
	give(&was, 3, 0, api.Share{N: 0, Values: []int{5, 9}})
	wantRestore(t, "the first one with this N is bent", was, 0, []int{8, 7, 9}, 2)
	held(was, 0, 0).Values[0] = 5
	wantRestore(t, "the first one with this N isn't bent any more", was, 0, data)
}

// TestNew: rooms from 0 to api.MaxRoom, of none to api.MaxPeers.
func TestNew(t *testing.T) {
	for many := range api.MaxPeers + 1 {
		for room := range api.MaxRoom + 1 {
			l := slices.Repeat([]int{room}, many)
			for n := range l {
				l[n] = (room + n) % (api.MaxRoom + 1)
			}
			if m, e := New(l); e != api.OK || !alike(m, empty(l...)) || Check(m) != api.OK {
				t.Errorf("New(%v): %v, error %d", l, m, e)
			}
		}
	}
	if m, e := New([]int{}); e != api.OK || !alike(m, api.Mesh{}) {
		t.Errorf("New of an empty list: %v, error %d", m, e)
	}
}

// TestNewErrors: too many are told ahead of what may not be.
func TestNewErrors(t *testing.T) {
	for _, many := range []int{api.MaxPeers + 1, 2 * api.MaxPeers, 100000} {
		for _, room := range []int{0, 5, api.MaxRoom, api.MaxRoom + 1, -1} {
			if m, e := New(slices.Repeat([]int{room}, many)); e != api.ErrMany || !nothing(m) {
				t.Errorf("New of %d with room %d: %v, error %d", many, room, m, e)
			}
		}
	}
	for _, room := range []int{-1, api.MaxRoom + 1, math.MinInt, math.MaxInt} {
		for many := 1; many <= api.MaxPeers; many++ {
			for at := range many {
				l := make([]int, many)
				l[at] = room
				if m, e := New(l); e != api.ErrRange || !nothing(m) {
					t.Errorf("New(%v): %v, error %d", l, m, e)
				}
			}
		}
	}
}

// TestCheck: meshes that may be, the greatest and the smallest among them.
func TestCheck(t *testing.T) {
	wantMesh := func(what string, m api.Mesh) {
		if e := Check(m); e != api.OK {
			t.Errorf("%s: Check(%v): error %d", what, m, e)
		}
	}
	wantMesh("nothing at all", api.Mesh{})
	wantMesh("empty lists", api.Mesh{B: api.Book{V: []api.Version{}}, P: []api.Peer{}})
	wantMesh("a version without peers", with(api.Mesh{}, api.Plan{Need: 1, Of: 1, Size: 1}))
	wantMesh("a small one", small())
	wantMesh("one that is repaired by nobody", api.Mesh{B: small().B, P: small().P[:1]})
	most := empty(slices.Repeat([]int{api.MaxRoom}, api.MaxPeers)...)
	for v := range api.MaxVersions {
		var parents []int
		for k := range v {
			parents = append(parents, k)
		}
		most = mustSave(t, most, content(api.MaxData, v), parents, api.MaxNeed, api.MaxShares)
	}
	wantMesh("the greatest one", most)
	leave(&most, 0, 3, 7)
	bend(&most, 4, 11, 30)
	give(&most, 5, 2, *held(most, 1, 3))
	take(&most, 5, 2)
	wantMesh("the greatest one, and some are away", most)
	for n := range most.P {
		most.P[n].Room = api.MaxVersions
	}
	wantMesh("the greatest one, without room", most)
}

// unlike: meshes, no two of which are alike, some of which may not be.
func unlike() []api.Mesh {
	l := []api.Mesh{{}, empty(0), empty(0, 0), empty(-1), with(api.Mesh{}, api.Plan{}), with(empty(0), api.Plan{})}
	change := func(how func(m *api.Mesh)) {
		m := small()
		how(&m)
		l = append(l, m)
	}
	change(func(m *api.Mesh) {})
	change(func(m *api.Mesh) { m.B = api.Book{} })
	change(func(m *api.Mesh) { m.P = nil })
	change(func(m *api.Mesh) { m.P = m.P[:3] })
	change(func(m *api.Mesh) { m.P = m.P[1:] })
	change(func(m *api.Mesh) { *m = with(*m, m.B.V[0].P) })
	change(func(m *api.Mesh) { *m = with(*m, m.B.V[0].P, 0) })
	change(func(m *api.Mesh) { m.B.V[0].Parents = []int{0} })
	change(func(m *api.Mesh) { m.B.V[0].P.Need = 1 })
	change(func(m *api.Mesh) { m.B.V[0].P.Of = 4 })
	change(func(m *api.Mesh) { m.B.V[0].P.Size = 4 })
	change(func(m *api.Mesh) { m.P[0], m.P[1] = m.P[1], m.P[0] })
	change(func(m *api.Mesh) { m.P[3] = m.P[0] })
	for n := range 4 {
		change(func(m *api.Mesh) { m.P[n].There = false })
		change(func(m *api.Mesh) { m.P[n].Room = 2 })
		change(func(m *api.Mesh) { m.P[n].Room = math.MinInt })
	}
	for n := range 3 {
		change(func(m *api.Mesh) { m.P[n].K = nil })
		change(func(m *api.Mesh) { m.P[n].K[0].Version = math.MaxInt })
		change(func(m *api.Mesh) { m.P[n].K[0].S.N = 3 })
		change(func(m *api.Mesh) { m.P[n].K[0].S.Values = nil })
		change(func(m *api.Mesh) { m.P[n].K[0].S.Values[0] = -1 })
		change(func(m *api.Mesh) { m.P[n].K[0].S.Values[1] = 1 })
		change(func(m *api.Mesh) { m.P[n].K = append(m.P[n].K, m.P[n].K[0]) })
	}
	return l
}

func TestSame(t *testing.T) {
	l := unlike()
	for i, a := range l {
		for j, b := range l {
			if got := Same(copied(a), b); got != (i == j) {
				t.Errorf("Same(%v, %v): %v", a, b, got)
			}
		}
	}
	bare := api.Mesh{B: api.Book{V: []api.Version{}}, P: []api.Peer{}}
	if !Same(bare, api.Mesh{}) || !Same(api.Mesh{}, bare) {
		t.Error("Same: lists that have nothing in them aren't alike")
	}
	m, n := small(), small()
	m.B.V[0].Parents, m.P[3].K = []int{}, []api.Kept{}
	if !Same(m, n) || !Same(n, m) {
		t.Error("Same: lists within that have nothing in them aren't alike")
	}
}
