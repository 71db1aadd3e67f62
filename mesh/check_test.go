package mesh

import (
	"math"
	"testing"

	"cellarman/api"
)

// fault of a mesh: what chapter 8 says of one that how was done to.
type fault struct {
	what string
	e    api.Errno
	how  func(m *api.Mesh)
}

// faults of a mesh of five versions and eight peers, each somewhere else, in
// the order in which they are told.
func faults() []fault {
	return []fault{
		{"too many versions", api.ErrMany, func(m *api.Mesh) {
			for range api.MaxVersions - 4 {
				*m = with(*m, api.Plan{Need: 1, Of: 1, Size: 1})
			}
		}},
		{"a parent below 0", api.ErrWho, func(m *api.Mesh) { m.B.V[0].Parents = []int{-1} }},
		{"a parent twice", api.ErrTwice, func(m *api.Mesh) { m.B.V[1].Parents = []int{0, 0} }},
		{"it comes from itself", api.ErrWho, func(m *api.Mesh) { m.B.V[2].Parents = []int{2} }},
		{"none is enough", api.ErrRange, func(m *api.Mesh) { m.B.V[3].P.Need = 0 }},
		{"too much content", api.ErrRange, func(m *api.Mesh) { m.B.V[4].P.Size = api.MaxData + 1 }},
		{"too many peers", api.ErrMany, func(m *api.Mesh) { m.P = append(m.P, api.Peer{}) }},
		{"room below 0", api.ErrRange, func(m *api.Mesh) { m.P[0].Room = -1 }},
		{"more than there is room for", api.ErrFull, func(m *api.Mesh) { m.P[1].Room = 2 }},
		{"too much room", api.ErrRange, func(m *api.Mesh) { m.P[2].Room = api.MaxRoom + 1 }},
		{"a version that isn't", api.ErrWho, func(m *api.Mesh) { m.P[3].K[2].Version = 100 }},
		{"a version twice", api.ErrTwice, func(m *api.Mesh) { m.P[4].K[1] = m.P[4].K[0] }},
		{"a share that isn't", api.ErrWho, func(m *api.Mesh) { m.P[5].K[0].S.N = api.MaxShares }},
		{"too few values", api.ErrForm, func(m *api.Mesh) { m.P[6].K[0].S.Values = nil }},
		{"a value that is no number", api.ErrRange, func(m *api.Mesh) { m.P[7].K[0].S.Values[0] = api.Prime }},
	}
}

// sound: five versions, eight peers that keep some of each.
func sound(t *testing.T) api.Mesh {
	t.Helper()
	m := empty(9, 9, 9, 9, 9, 9, 9, 9)
	for v := range 5 {
		m = mustSave(t, m, content(3+v, v), nil, 1+v%4, 8)
	}
	return m
}

// wantFault: Check's error is the one of all calls that take a mesh, whatever
// else they are given.
func wantFault(t *testing.T, what string, m api.Mesh, want api.Errno) {
	t.Helper()
	if e := Check(m); e != want {
		t.Fatalf("%s: Check(%v): error %d, want %d", what, m, e, want)
	}
	for _, version := range []int{0, 4, 5, -1, math.MaxInt} {
		wantLost(t, what, m, version, want)
	}
	wantUnsaved(t, what, m, []int{1}, []int{0}, 1, 1, want)
	wantUnsaved(t, what, m, []int{1}, []int{-1}, 1, 1, want)
	wantUnsaved(t, what, m, []int{-1}, nil, 1, 1, want)
	wantUnsaved(t, what, m, nil, nil, 0, 0, want)
	wantUnsaved(t, what, m, []int{1}, nil, 1, 9, want)
}

// TestFaults: one by one, and of two the one that is told first; away or not.
func TestFaults(t *testing.T) {
	all := faults()
	for _, m := range []api.Mesh{sound(t), stay(sound(t), 0), stay(sound(t), 0xaa)} {
		for i, first := range all {
			one := copied(m)
			first.how(&one)
			wantFault(t, first.what, one, first.e)
			for _, second := range all[i+1:] {
				two := copied(m)
				first.how(&two)
				second.how(&two)
				wantFault(t, first.what+" and "+second.what, two, first.e)
			}
		}
	}
}

// TestFaultsWithoutPeers: the book's are told where nobody is.
func TestFaultsWithoutPeers(t *testing.T) {
	for _, c := range faults()[:6] {
		m := sound(t)
		c.how(&m)
		wantFault(t, c.what+", no peers", api.Mesh{B: m.B}, c.e)
		m.P = append(m.P, m.P...)
		wantFault(t, c.what+", too many peers", m, c.e)
	}
	many := api.Mesh{P: make([]api.Peer, 100000)}
	wantFault(t, "very many peers", many, api.ErrMany)
	wantFault(t, "very many versions", api.Mesh{B: api.Book{V: make([]api.Version, 100000)}}, api.ErrMany)
}
