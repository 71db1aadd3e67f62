package world_test

import (
	"slices"
	"testing"

	"cellarman/api"
	"cellarman/mesh"
	"cellarman/world"
)

// small: the document's example, 5 7 9 by 2 of 3, in a mesh of four peers, the
// last of which keeps nothing.
func small() api.Mesh {
	m := api.Mesh{B: api.Book{V: []api.Version{{P: api.Plan{Need: 2, Of: 3, Size: 3}}}}}
	for n, values := range [][]int{{5, 9}, {7, 0}, {9, 22}} {
		k := api.Kept{S: api.Share{N: n, Values: values}}
		m.P = append(m.P, api.Peer{There: true, Room: 3, K: []api.Kept{k}})
	}
	m.P = append(m.P, api.Peer{There: true, Room: 3})
	return m
}

// TestWrittenOut: one thing after another, each with what it makes.
func TestWrittenOut(t *testing.T) {
	save := api.Happening{Kind: api.HSave, Data: []int{5, 7, 9}, Need: 2, Of: 3}
	wantDo(t, "5 7 9 is saved", empty(t, 4, 3), save, small())
	m := small()
	next := func(what string, x api.Happening, how func(c *api.Mesh)) {
		t.Helper()
		want := changed(m, how)
		wantDo(t, what, m, x, want)
		m = want
	}
	next("peer 1 leaves", api.Happening{Kind: api.HLeave, N: 1}, func(c *api.Mesh) { c.P[1].There = false })
	next("share 1 is made again", api.Happening{Kind: api.HRepair}, func(c *api.Mesh) {
		c.P[3].K = []api.Kept{{S: api.Share{N: 1, Values: []int{7, 0}}}}
	})
	next("peer 1 comes again, with what it had", api.Happening{Kind: api.HCome, N: 1}, func(c *api.Mesh) { c.P[1].There = true })
	next("peer 2's share is bent", api.Happening{Kind: api.HBend, N: 2}, func(c *api.Mesh) { c.P[2].K[0].S.Values[0] = 10 })
	next("peer 0 loses all", api.Happening{Kind: api.HLose}, func(c *api.Mesh) { c.P[0].K = nil })
	next("8 is saved, that comes from it", api.Happening{Kind: api.HSave, Data: []int{8}, Parents: []int{0}, Need: 1, Of: 1}, func(c *api.Mesh) {
		c.B.V = append(c.B.V, api.Version{Parents: []int{0}, P: api.Plan{Need: 1, Of: 1, Size: 1}})
		c.P[0].K = []api.Kept{{Version: 1, S: api.Share{Values: []int{8}}}}
	})
	wantNone(t, "a parent isn't forgotten", m, api.Happening{Kind: api.HForget}, api.ErrLate)
	next("8 is forgotten, and stays in the book", api.Happening{Kind: api.HForget, N: 1}, func(c *api.Mesh) { c.P[0].K = nil })
	wantNone(t, "a parent of what is forgotten isn't, either", m, api.Happening{Kind: api.HForget}, api.ErrLate)
}

// meshesToSaveIn: with room and without, with and without peers and versions.
func meshesToSaveIn(t *testing.T) []api.Mesh {
	t.Helper()
	full := family(t)
	for len(full.B.V) < api.MaxVersions {
		full = saved(t, full, []int{3}, nil, 1, 1)
	}
	noRoom := changed(family(t), func(c *api.Mesh) {
		for n, p := range c.P {
			c.P[n].Room = len(p.K)
		}
	})
	return []api.Mesh{
		{}, empty(t, 8, 0), empty(t, 8, 1), empty(t, 5, api.MaxRoom), empty(t, 1, 2), {B: family(t).B},
		family(t), stay(family(t), 0), stay(family(t), 0x5f), noRoom, full, stay(full, 0x3e),
	}
}

// TestSave: as chapter 9's Save, with its errors.
func TestSave(t *testing.T) {
	seen := map[api.Errno]int{}
	for _, m := range meshesToSaveIn(t) {
		for need := -1; need <= api.MaxNeed+1; need++ {
			for of := -1; of <= api.MaxShares+1; of++ {
				for i, data := range [][]int{content(1, 30), content(api.MaxData, 7), content(api.MaxData+1, 7), nil, {3, 31}, {-1}} {
					parents := [][]int{nil, {0}, {1, 4}, {6}, {4, 1}, {0, 0}, {-1}, {12}}[(need+of+i+2)%8]
					x := api.Happening{Kind: api.HSave, Data: data, Parents: parents, Need: need, Of: of}
					seen[compare(t, "a save", m, x)]++
				}
			}
		}
	}
	for _, e := range []api.Errno{api.OK, api.ErrMany, api.ErrRange, api.ErrWho, api.ErrTwice, api.ErrShort} {
		if seen[e] < 9 {
			t.Errorf("error %d came %d times", e, seen[e])
		}
	}
}

// TestSaveIsRestored: of each plan.
func TestSaveIsRestored(t *testing.T) {
	m := family(t)
	for need := 1; need <= api.MaxNeed; need++ {
		for of := need; of <= api.MaxShares; of++ {
			data := content(3*need+of, of)
			made, e := world.Do(m, api.Happening{Kind: api.HSave, Data: data, Parents: []int{2, 6}, Need: need, Of: of})
			if e != api.OK || len(made.B.V) != 8 || !slices.Equal(made.B.V[7].Parents, []int{2, 6}) {
				t.Fatalf("%d of %d: %v, error %d", need, of, made, e)
			}
			if got, others, e := mesh.Restore(made, 7); e != api.OK || !slices.Equal(got, data) || len(others) > 0 {
				t.Errorf("%d of %d: restored %v, others %v, error %d, want %v", need, of, got, others, e, data)
			}
		}
	}
}

// TestRepair: as chapter 9's Repair, of version N, with its errors.
func TestRepair(t *testing.T) {
	seen := map[api.Errno]int{}
	some := rule()
	for range 3000 {
		m := muddle(some)
		for version := -1; version <= len(m.B.V); version++ {
			seen[compare(t, "a muddle", m, api.Happening{Kind: api.HRepair, N: version})]++
		}
	}
	for choice := range 1 << api.MaxPeers {
		m := stay(family(t), choice)
		for version := range m.B.V {
			seen[compare(t, "some left", m, api.Happening{Kind: api.HRepair, N: version})]++
		}
	}
	for _, m := range meshesToSaveIn(t) {
		for _, version := range outside(len(m.B.V)) {
			if version < 0 || version >= len(m.B.V) {
				wantNone(t, "no such version", m, api.Happening{Kind: api.HRepair, N: version}, api.ErrWho)
			}
		}
	}
	for _, e := range []api.Errno{api.OK, api.ErrWho, api.ErrShort, api.ErrTorn} {
		if seen[e] < 20 {
			t.Errorf("error %d came %d times", e, seen[e])
		}
	}
}

// TestForget: those that are there keep nothing of it any more, whoever it is.
func TestForget(t *testing.T) {
	for choice := range 1 << api.MaxPeers {
		m := stay(family(t), choice)
		for _, version := range []int{4, 5, 6} {
			x := api.Happening{Kind: api.HForget, N: version}
			want := copied(m)
			for n := range want.P {
				if choice>>n&1 > 0 {
					want.P[n].K = without(want.P[n].K, version)
				}
			}
			wantDo(t, "those there forget it", m, x, want)
			wantDo(t, "it is forgotten twice", want, x, want)
			all, rest := stay(want, 0xff), stay(m, 0xff)
			for n := range rest.P {
				rest.P[n].K = without(rest.P[n].K, version)
			}
			wantDo(t, "those come again who kept it", all, x, rest)
		}
		for _, version := range []int{0, 1, 2, 3} {
			wantNone(t, "a parent", m, api.Happening{Kind: api.HForget, N: version}, api.ErrLate)
		}
		for _, version := range outside(7) {
			wantNone(t, "no such version", m, api.Happening{Kind: api.HForget, N: version}, api.ErrWho)
		}
	}
}

// TestForgetEdges: no peers, no versions, most versions, nothing kept.
func TestForgetEdges(t *testing.T) {
	forget := func(version int) api.Happening { return api.Happening{Kind: api.HForget, N: version} }
	for _, m := range []api.Mesh{{}, empty(t, 1, 0), empty(t, api.MaxPeers, api.MaxRoom)} {
		for _, version := range append(outside(1), 0) {
			wantNone(t, "an empty book", m, forget(version), api.ErrWho)
		}
	}
	m := empty(t, api.MaxPeers, api.MaxRoom)
	for v := range api.MaxVersions {
		var parents []int
		if v%2 > 0 {
			parents = []int{v - 1}
		}
		m = saved(t, m, content(24, v), parents, 4, 8)
	}
	for _, version := range outside(api.MaxVersions) {
		wantNone(t, "beside most versions", m, forget(version), api.ErrWho)
	}
	for v := range api.MaxVersions {
		if v%2 == 0 {
			wantNone(t, "a parent", m, forget(v), api.ErrLate)
			wantNone(t, "a parent, no peers", api.Mesh{B: m.B}, forget(v), api.ErrLate)
			continue
		}
		wantDo(t, "one of most versions, no peers", api.Mesh{B: m.B}, forget(v), api.Mesh{B: m.B})
		want := changed(m, func(c *api.Mesh) {
			for n := range c.P {
				c.P[n].K = without(c.P[n].K, v)
			}
		})
		wantDo(t, "one of most versions", m, forget(v), want)
		for n := range want.P {
			want.P[n].K = nil
		}
		wantDo(t, "nothing is kept", want, forget(v), want)
		away := stay(m, 0)
		wantDo(t, "nobody is there", away, forget(v), away)
	}
}

// TestLeaveAndCome: with what it has, whoever else is there.
func TestLeaveAndCome(t *testing.T) {
	for _, whole := range []api.Mesh{family(t), empty(t, api.MaxPeers, 0), empty(t, 1, api.MaxRoom)} {
		for choice := range 1 << len(whole.P) {
			m := stay(whole, choice)
			for n := range m.P {
				leave, come := api.Happening{Kind: api.HLeave, N: n}, api.Happening{Kind: api.HCome, N: n}
				away, there := stay(whole, choice&^(1<<n)), stay(whole, choice|1<<n)
				if choice>>n&1 > 0 {
					wantNone(t, "it is there", m, come, api.ErrLate)
					wantDo(t, "it is there", m, leave, away)
				} else {
					wantNone(t, "it is away", m, leave, api.ErrLate)
					wantDo(t, "it is away", m, come, there)
				}
			}
		}
	}
}

// TestLose: whether it is there or not, whether it kept something or not.
func TestLose(t *testing.T) {
	for _, whole := range []api.Mesh{family(t), empty(t, api.MaxPeers, 0), empty(t, 1, api.MaxRoom)} {
		for choice := range 1 << len(whole.P) {
			m := stay(whole, choice)
			for n := range m.P {
				x := api.Happening{Kind: api.HLose, N: n}
				want := changed(m, func(c *api.Mesh) { c.P[n].K = nil })
				wantDo(t, "it loses all", m, x, want)
				wantDo(t, "it has nothing to lose", want, x, want)
			}
		}
	}
}

// TestBend: each peer at each place, there or away, as often as there are
// numbers.
func TestBend(t *testing.T) {
	for _, m := range []api.Mesh{family(t), stay(family(t), 0), stay(family(t), 0x9c)} {
		for n, p := range m.P {
			for at, k := range p.K {
				bent := m
				for turn := range api.Prime {
					want := changed(m, func(c *api.Mesh) {
						c.P[n].K[at].S.Values[0] = (k.S.Values[0] + turn + 1) % api.Prime
					})
					wantDo(t, "one is bent", bent, api.Happening{Kind: api.HBend, N: n, M: at}, want)
					bent = want
				}
				if !mesh.Same(bent, m) {
					t.Fatalf("bent as often as there are numbers: %v, want %v", bent, m)
				}
			}
		}
	}
}

// TestBendWrap: the greatest number, and the one below it.
func TestBendWrap(t *testing.T) {
	for _, c := range [][2]int{{0, 1}, {1, 2}, {api.Prime - 2, api.Prime - 1}, {api.Prime - 1, 0}} {
		m, want := small(), small()
		m.P[1].K[0].S.Values = []int{c[0], api.Prime - 1}
		want.P[1].K[0].S.Values = []int{c[1], api.Prime - 1}
		wantDo(t, "the first one is bent", m, api.Happening{Kind: api.HBend, N: 1}, want)
	}
	m := saved(t, empty(t, 1, 1), []int{api.Prime - 1}, nil, 1, 1)
	want := saved(t, empty(t, 1, 1), []int{0}, nil, 1, 1)
	wantDo(t, "there is but one", m, api.Happening{Kind: api.HBend}, want)
}
