package audit

import (
	"math"
	"testing"

	"cellarman/api"
)

// noVersions of a book of so many.
func noVersions(many int) []int {
	return []int{math.MinInt, -2, -1, many, many + 1, 100, math.MaxInt}
}

// TestNoSuchVersion: whichever book it is, whoever is there.
func TestNoSuchVersion(t *testing.T) {
	m := api.Mesh{}
	for many := range api.MaxVersions + 1 {
		for _, version := range noVersions(many) {
			wantNeither(t, "a book without peers", m, version, api.ErrWho)
			full := m
			full.P = empty(api.MaxPeers).P
			for v := range many {
				give(&full, v%8, v, api.Share{Values: []int{v}})
			}
			wantNeither(t, "a book and most peers", full, version, api.ErrWho)
			wantNeither(t, "a book, and nobody is there", stay(full, 0), version, api.ErrWho)
		}
		m = with(m, api.Plan{Need: 1, Of: 2, Size: 1})
	}
}

// TestTorn: what is there makes nothing; what lacks is told.
func TestTorn(t *testing.T) {
	m := spread(empty(6), content(3, 5), 2, 3, 1)
	for n := range m.P {
		if s := held(m, n, 0); s != nil {
			s.Values[1] = (s.Values[1] + 5*s.N*s.N + 1) % api.Prime
		}
	}
	wantUnblamed(t, "behind the content there is something else than 0", m, 0, api.ErrTorn)
	wantLacking(t, "behind the content there is something else than 0", m, 0, 0)
	leave(&m, 1)
	wantUnblamed(t, "one left", m, 0, api.ErrTorn)
	wantLacking(t, "one left", m, 0, 1)
	leave(&m, 2)
	wantUnblamed(t, "too few", m, 0, api.ErrShort)
	wantLacking(t, "too few", m, 0, 2)
	wantNeither(t, "too few, of a version that isn't", m, 1, api.ErrWho)
}

// fault of a mesh: what chapter 8 says of one that how was done to.
type fault struct {
	what string
	e    api.Errno
	how  func(m *api.Mesh)
}

// faults of a mesh of five versions and eight peers, each somewhere else, in
// the order in which they are told.
func faults() []fault {
	return []fault{
		{"too many versions", api.ErrMany, func(m *api.Mesh) {
			for range api.MaxVersions - 4 {
				*m = with(*m, api.Plan{Need: 1, Of: 1, Size: 1})
			}
		}},
		{"a parent below 0", api.ErrWho, func(m *api.Mesh) { m.B.V[0].Parents = []int{-1} }},
		{"a parent twice", api.ErrTwice, func(m *api.Mesh) { m.B.V[1].Parents = []int{0, 0} }},
		{"it comes from itself", api.ErrWho, func(m *api.Mesh) { m.B.V[2].Parents = []int{2} }},
		{"none is enough", api.ErrRange, func(m *api.Mesh) { m.B.V[3].P.Need = 0 }},
		{"too many shares", api.ErrRange, func(m *api.Mesh) { m.B.V[4].P.Of = api.MaxShares + 1 }},
		{"too many peers", api.ErrMany, func(m *api.Mesh) { m.P = append(m.P, api.Peer{}) }},
		{"room below 0", api.ErrRange, func(m *api.Mesh) { m.P[0].Room = -1 }},
		{"more than there is room for", api.ErrFull, func(m *api.Mesh) { m.P[1].Room = 4 }},
		{"too much room", api.ErrRange, func(m *api.Mesh) { m.P[2].Room = api.MaxRoom + 1 }},
		{"a version that isn't", api.ErrWho, func(m *api.Mesh) { m.P[3].K[4].Version = 100 }},
		{"a version twice", api.ErrTwice, func(m *api.Mesh) { m.P[4].K[1] = m.P[4].K[0] }},
		{"a share that isn't", api.ErrWho, func(m *api.Mesh) { m.P[5].K[0].S.N = api.MaxShares }},
		{"a share below 0", api.ErrWho, func(m *api.Mesh) { m.P[5].K[3].S.N = -1 }},
		{"too few values", api.ErrForm, func(m *api.Mesh) { m.P[6].K[0].S.Values = nil }},
		{"a value that is no number", api.ErrRange, func(m *api.Mesh) { m.P[7].K[0].S.Values[0] = api.Prime }},
		{"a value below 0", api.ErrRange, func(m *api.Mesh) { m.P[7].K[4].S.Values[0] = -1 }},
	}
}

// sound: five versions, of each of which all eight peers keep a share.
func sound() api.Mesh {
	m := empty(8)
	for v := range 5 {
		m = spread(m, content(3+v, v), 1+v%4, 8, v)
	}
	return m
}

// wantFault: Check's error is told of each version, be it there or not.
func wantFault(t *testing.T, what string, m api.Mesh, want api.Errno) {
	t.Helper()
	for _, version := range append(noVersions(5), 0, 2, 4) {
		wantNeither(t, what, m, version, want)
	}
}

// TestFaults: one by one, and of two the one that is told first; away or not.
func TestFaults(t *testing.T) {
	for v := range 5 {
		wantBlamed(t, "without a fault", sound(), v)
		wantLacking(t, "without a fault", sound(), v, 0)
	}
	all := faults()
	for _, m := range []api.Mesh{sound(), stay(sound(), 0), stay(sound(), 0xaa)} {
		for i, first := range all {
			one := copied(m)
			first.how(&one)
			wantFault(t, first.what, one, first.e)
			for _, second := range all[i+1:] {
				two := copied(m)
				first.how(&two)
				second.how(&two)
				wantFault(t, first.what+" and "+second.what, two, first.e)
			}
		}
	}
}

// TestFaultsWithoutPeers: the book's are told where nobody is.
func TestFaultsWithoutPeers(t *testing.T) {
	for _, c := range faults()[:6] {
		m := sound()
		c.how(&m)
		wantFault(t, c.what+", no peers", api.Mesh{B: m.B}, c.e)
		m.P = append(m.P, m.P...)
		wantFault(t, c.what+", too many peers", m, c.e)
	}
	many := api.Mesh{P: make([]api.Peer, 100000)}
	wantFault(t, "very many peers", many, api.ErrMany)
	wantFault(t, "very many versions", api.Mesh{B: api.Book{V: make([]api.Version, 100000)}}, api.ErrMany)
}
