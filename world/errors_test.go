package world_test

import (
	"math"
	"testing"

	"cellarman/api"
)

// TestNoKind: whatever else it has.
func TestNoKind(t *testing.T) {
	for _, kind := range noKinds {
		for _, m := range meshesToSaveIn(t) {
			wantNone(t, "nothing else", m, api.Happening{Kind: kind}, api.ErrForm)
			for _, n := range append(outside(8), 3) {
				wantNone(t, "no such kind", m, api.Happening{Kind: kind, N: n, M: -n, Data: []int{1}, Parents: []int{0}, Need: 1, Of: 1}, api.ErrForm)
			}
		}
	}
}

// TestNoPeer: N below 0, just too high, far above; of several errors it is the
// first.
func TestNoPeer(t *testing.T) {
	for many := range api.MaxPeers + 1 {
		m := empty(t, many, 3)
		if many > 0 {
			m = saved(t, m, content(4, many), nil, 1, many)
		}
		for _, m := range []api.Mesh{m, stay(m, 0)} {
			for _, kind := range []int{api.HLeave, api.HCome, api.HLose, api.HBend} {
				for _, n := range outside(many) {
					if n >= 0 && n < many {
						continue
					}
					wantNone(t, "no such peer", m, api.Happening{Kind: kind, N: n}, api.ErrWho)
					wantNone(t, "no such peer, nor place", m, api.Happening{Kind: kind, N: n, M: n}, api.ErrWho)
				}
			}
		}
	}
}

// TestNoPlace: M below 0, just too high, far above; of who is away, too.
func TestNoPlace(t *testing.T) {
	for _, m := range []api.Mesh{family(t), stay(family(t), 0), empty(t, api.MaxPeers, api.MaxRoom)} {
		for n, p := range m.P {
			for _, at := range outside(len(p.K)) {
				if at < 0 || at >= len(p.K) {
					wantNone(t, "nothing at that place", m, api.Happening{Kind: api.HBend, N: n, M: at}, api.ErrWho)
				}
			}
			lost := changed(m, func(c *api.Mesh) { c.P[n].K = nil })
			for at := range 3 {
				wantNone(t, "it keeps nothing", lost, api.Happening{Kind: api.HBend, N: n, M: at}, api.ErrWho)
			}
		}
	}
}

// TestOtherFields: what a Kind doesn't ask for may be whatever it is.
func TestOtherFields(t *testing.T) {
	m := stay(family(t), 0xef)
	for _, x := range []api.Happening{
		{Kind: api.HSave, Data: []int{4, 5}, Parents: []int{1, 5}, Need: 1, Of: 3}, {Kind: api.HRepair, N: 2}, {Kind: api.HForget, N: 5},
		{Kind: api.HLeave, N: 1}, {Kind: api.HCome, N: 4}, {Kind: api.HLose, N: 3}, {Kind: api.HBend, N: 2, M: 1},
		{Kind: api.HSave, Data: []int{4, 5}, Need: 3, Of: 2}, {Kind: api.HRepair, N: 7}, {Kind: api.HForget, N: 3},
		{Kind: api.HLeave, N: 4}, {Kind: api.HCome, N: 1}, {Kind: api.HLose, N: 8}, {Kind: api.HBend, N: 2, M: 9},
	} {
		want, e := after(m, x)
		for _, odd := range []int{math.MinInt, -1, 0, 1, 4, 8, api.Prime, math.MaxInt} {
			y := x
			if x.Kind == api.HSave {
				y.N = odd
			} else {
				y.Data, y.Parents, y.Need, y.Of = []int{odd, odd}, []int{odd, 3, 3}, odd, -odd
			}
			if x.Kind != api.HBend {
				y.M = odd
			}
			if e == api.OK {
				wantDo(t, "other fields", m, y, want)
			} else {
				wantNone(t, "other fields", m, y, e)
			}
		}
	}
}

// fault of a mesh: what chapter 8 says of one that how was done to.
type fault struct {
	what string
	e    api.Errno
	how  func(m *api.Mesh)
}

// faults of a family, each somewhere else, in the order in which they are told.
func faults() []fault {
	return []fault{
		{"too many versions", api.ErrMany, func(m *api.Mesh) { m.B.V = append(m.B.V, make([]api.Version, 6)...) }},
		{"a parent below 0", api.ErrWho, func(m *api.Mesh) { m.B.V[0].Parents = []int{-1} }},
		{"a parent twice", api.ErrTwice, func(m *api.Mesh) { m.B.V[1].Parents = []int{0, 0} }},
		{"it comes from itself", api.ErrWho, func(m *api.Mesh) { m.B.V[2].Parents = []int{2} }},
		{"none is enough", api.ErrRange, func(m *api.Mesh) { m.B.V[3].P.Need = 0 }},
		{"too much content", api.ErrRange, func(m *api.Mesh) { m.B.V[6].P.Size = api.MaxData + 1 }},
		{"too many peers", api.ErrMany, func(m *api.Mesh) { m.P = append(m.P, api.Peer{}) }},
		{"room below 0", api.ErrRange, func(m *api.Mesh) { m.P[0].Room = -1 }},
		{"more than there is room for", api.ErrFull, func(m *api.Mesh) { m.P[1].Room = 0 }},
		{"too much room", api.ErrRange, func(m *api.Mesh) { m.P[2].Room = api.MaxRoom + 1 }},
		{"a version that isn't", api.ErrWho, func(m *api.Mesh) { m.P[3].K[2].Version = 7 }},
		{"a version twice", api.ErrTwice, func(m *api.Mesh) { m.P[4].K[1] = m.P[4].K[0] }},
		{"a share that isn't", api.ErrWho, func(m *api.Mesh) { m.P[5].K[0].S.N = api.MaxShares }},
		{"no values", api.ErrForm, func(m *api.Mesh) { m.P[6].K[0].S.Values = nil }},
		{"a value that is no number", api.ErrRange, func(m *api.Mesh) { m.P[7].K[0].S.Values[0] = api.Prime }},
	}
}

// wantFault: Check's error comes first, whatever happens.
func wantFault(t *testing.T, what string, m api.Mesh, want api.Errno) {
	t.Helper()
	for _, kind := range append([]int{-1, 0, 8}, kinds...) {
		for _, n := range []int{-1, 0, 5, 7, math.MaxInt} {
			wantNone(t, what, m, api.Happening{Kind: kind, N: n, M: n, Need: n, Of: n}, want)
			wantNone(t, what, m, api.Happening{Kind: kind, N: n, Data: []int{1}, Need: 1, Of: 1}, want)
		}
	}
	for _, many := range []int{0, 1, api.MaxScript, api.MaxScript + 1, 1000} {
		wantNoRun(t, what, m, make([]api.Happening, many), want)
	}
	wantNoRun(t, what, m, []api.Happening{{Kind: api.HLose}, {Kind: api.HLose, N: 7}}, want)
}

// TestFaults: one by one, and of two the one that is told first; away or not.
func TestFaults(t *testing.T) {
	all := faults()
	for _, m := range []api.Mesh{family(t), stay(family(t), 0), stay(family(t), 0xaa)} {
		for i, first := range all {
			one := changed(m, first.how)
			wantFault(t, first.what, one, first.e)
			for _, second := range all[i+1:] {
				two := changed(one, second.how)
				wantFault(t, first.what+" and "+second.what, two, first.e)
			}
		}
	}
}

// TestFaultsWithoutPeers: the book's are told where nobody is.
func TestFaultsWithoutPeers(t *testing.T) {
	for _, c := range faults()[:6] {
		m := changed(family(t), c.how)
		wantFault(t, c.what+", no peers", api.Mesh{B: m.B}, c.e)
		m.P = append(m.P, m.P...)
		wantFault(t, c.what+", too many peers", m, c.e)
	}
	wantFault(t, "very many peers", api.Mesh{P: make([]api.Peer, 100000)}, api.ErrMany)
	wantFault(t, "very many versions", api.Mesh{B: api.Book{V: make([]api.Version, 100000)}}, api.ErrMany)
}
