package tale_test

import (
	"slices"
	"testing"

	"cellarman/api"
	"cellarman/mesh"
)

// kept: a share of this version, as long as small's and wide's are, of no
// content that it is asked for.
func kept(version, number int) api.Kept {
	return api.Kept{Version: version, S: api.Share{N: number, Values: []int{number, version + 20}}}
}

// at: a peer that is there and keeps these.
func at(l ...api.Kept) api.Peer { return api.Peer{There: true, Room: api.MaxRoom, K: l} }

// away: p, that isn't there.
func away(p api.Peer) api.Peer {
	p.There = false
	return p
}

// three: versions of which 1, 2 and 4 shares are enough.
func three(l ...api.Peer) api.Mesh {
	return api.Mesh{B: api.Book{V: []api.Version{
		{P: api.Plan{Need: 1, Of: 8, Size: 2}}, {P: api.Plan{Need: 2, Of: 5, Size: 3}}, {Parents: []int{0, 1}, P: api.Plan{Need: 4, Of: 4, Size: 8}},
	}}, P: l}
}

// TestSpareWrittenOut: who keeps what, and what is spare of each version.
func TestSpareWrittenOut(t *testing.T) {
	for _, c := range []struct {
		what string
		m    api.Mesh
		want [3]int
	}{
		{"nobody", three(), [3]int{-1, -2, -4}},
		{"nothing is kept", three(at(), at(), away(at())), [3]int{-1, -2, -4}},
		{"just enough of the first", three(at(kept(0, 7))), [3]int{0, -2, -4}},
		{"just enough of the second", three(at(kept(1, 3)), at(), at(kept(1, 0))), [3]int{-1, 0, -4}},
		{"just enough of the last", three(at(kept(2, 3)), at(kept(2, 2)), at(kept(2, 1)), at(kept(2, 0))), [3]int{-1, -2, 0}},
		{"one too few of the last", three(at(kept(2, 3)), at(kept(2, 2)), at(kept(2, 0))), [3]int{-1, -2, -1}},
		{"all of each", three(at(kept(0, 0), kept(1, 0), kept(2, 0)), at(kept(0, 1), kept(1, 1), kept(2, 1)), at(kept(0, 2), kept(1, 2), kept(2, 2)),
			at(kept(0, 3), kept(1, 3), kept(2, 3)), at(kept(0, 4), kept(1, 4)), at(kept(0, 5)), at(kept(0, 6)), at(kept(0, 7))), [3]int{7, 3, 0}},
		{"number 0 at each", three(at(kept(0, 0), kept(1, 0), kept(2, 0)), at(kept(0, 0), kept(1, 0), kept(2, 0))), [3]int{0, -1, -3}},
		{"two have the greatest", three(at(kept(0, 7), kept(1, 4), kept(2, 3)), at(kept(0, 7), kept(1, 4), kept(2, 3)), at(kept(1, 1))), [3]int{0, 0, -3}},
		{"all are away", three(away(at(kept(0, 1), kept(1, 1), kept(2, 1))), away(at(kept(0, 2), kept(1, 2), kept(2, 2)))), [3]int{-1, -2, -4}},
		{"one is away", three(at(kept(0, 1), kept(1, 1)), away(at(kept(0, 2), kept(1, 2))), at(kept(0, 3), kept(1, 3))), [3]int{1, 0, -4}},
		{"the first one with it is away", three(away(at(kept(1, 2))), at(kept(1, 2)), at(kept(1, 0))), [3]int{-1, 0, -4}},
		{"the second one with it is away", three(at(kept(1, 2)), away(at(kept(1, 2))), at(kept(1, 0))), [3]int{-1, 0, -4}},
		{"the only one with it is away", three(at(kept(1, 2)), away(at(kept(1, 4))), at(kept(1, 2))), [3]int{-1, -1, -4}},
		{"others behind and ahead", three(at(kept(0, 1), kept(2, 1)), at(kept(1, 1)), at(kept(0, 2), kept(1, 2), kept(2, 2)), at(kept(1, 1), kept(2, 0))), [3]int{1, 0, -1}},
	} {
		if e := mesh.Check(c.m); e != api.OK {
			t.Fatalf("%s: Check(%v): error %d", c.what, c.m, e)
		}
		for version, want := range c.want {
			wantSpare(t, c.what, c.m, version, want)
			reversed := c.m
			reversed.P = slices.Clone(c.m.P)
			slices.Reverse(reversed.P)
			wantSpare(t, c.what+", the last one first", reversed, version, want)
		}
	}
}

// TestSpareOfUnlikeWithOneNumber: what they are of is all the same; only the
// number counts.
func TestSpareOfUnlikeWithOneNumber(t *testing.T) {
	m := three(at(kept(1, 1)), at(kept(1, 1)), at(kept(1, 4)))
	for value := range api.Prime {
		m.P[0].K[0].S.Values = []int{value, 0}
		wantSpare(t, "unlike ones", m, 1, 0)
		m.P[2].K[0].S.Values = []int{value, 0}
		wantSpare(t, "like ones with another number", m, 1, 0)
	}
}

// TestSpareOfPlans: of each plan, with each choice of peers away; the same with
// each choice that has lost what it kept.
func TestSpareOfPlans(t *testing.T) {
	for need := 1; need <= api.MaxNeed; need++ {
		for of := need; of <= api.MaxShares; of++ {
			m := next(t, begun(t, like(api.MaxPeers, 1)), save(content(3+need, of), need, of))
			wantSpare(t, "all are there", m, 0, of-need)
			for choice := range 1 << api.MaxPeers {
				left, lost, there := m, m, 0
				for n := range api.MaxPeers {
					if choice>>n&1 > 0 {
						left, lost = next(t, left, to(api.HLeave, n)), next(t, lost, to(api.HLose, n))
					} else if n < of {
						there++ // all have like room, so peer n keeps share n
					}
				}
				wantSpare(t, "some have left", left, 0, there-need)
				wantSpare(t, "some have lost it", lost, 0, there-need)
			}
		}
	}
}

// TestSpareByTurns: what happens one after the other, and what is spare then.
func TestSpareByTurns(t *testing.T) {
	m := begun(t, like(4, 2))
	for _, c := range []struct {
		what string
		x    api.Happening
		want int
	}{
		{"it is saved", save([]int{5, 7, 9}, 2, 3), 1},
		{"peer 0 leaves", to(api.HLeave, 0), 0},
		{"peer 3 gets share 0", to(api.HRepair, 0), 1},
		{"peer 0 comes, and share 0 is there twice", to(api.HCome, 0), 1},
		{"peer 3 loses it, and peer 0 has it", to(api.HLose, 3), 1},
		{"peer 1's is bent, and counts", to(api.HBend, 1), 1},
		{"peer 0 leaves again", to(api.HLeave, 0), 0},
		{"peer 1 loses what is bent", to(api.HLose, 1), -1},
		{"peer 2 leaves", to(api.HLeave, 2), -2},
		{"another one is saved", save([]int{8}, 1, 2), -2},
		{"peer 0 comes again", to(api.HCome, 0), -1},
		{"peer 2 comes", to(api.HCome, 2), 0},
		{"peer 0 leaves once more", to(api.HLeave, 0), -1},
		{"those that are there forget it", to(api.HForget, 0), -2},
		{"peer 0 comes, and forgot nothing", to(api.HCome, 0), -1},
	} {
		m = next(t, m, c.x)
		wantSpare(t, c.what, m, 0, c.want)
	}
	wantSpare(t, "the other one", m, 1, 1)
}

// TestSpareMuddles: behind scripts of anything, against what is counted number
// by number.
func TestSpareMuddles(t *testing.T) {
	some := rule()
	seen := map[int]int{}
	for range 1500 {
		m := begun(t, anyRoom(some))
		for _, x := range script(some, some(40), false) {
			m, _, _ = step(m, x, nil)
		}
		for version := range m.B.V {
			want := less(m, version)
			wantSpare(t, "a muddle", m, version, want)
			seen[want]++
		}
	}
	for spare := -3; spare <= 3; spare++ {
		if seen[spare] < 10 {
			t.Errorf("%d was spare but %d times", spare, seen[spare])
		}
	}
}

// TestSpareOfNone: a version below 0, just too high and far above.
func TestSpareOfNone(t *testing.T) {
	full := begun(t, like(api.MaxPeers, api.MaxRoom))
	for v := range api.MaxVersions {
		full = next(t, full, save(content(4, v), 1+v%4, 8))
	}
	for _, m := range []api.Mesh{{}, begun(t, like(api.MaxPeers, 0)), three(), three(at(kept(0, 0))), three(away(at(kept(2, 0)))), full} {
		for _, version := range outside(len(m.B.V)) {
			if version < 0 || version >= len(m.B.V) {
				wantNoSpare(t, "no such version", m, version, api.ErrWho)
			}
		}
	}
	for v := range api.MaxVersions {
		wantSpare(t, "most versions", full, v, 8-1-v%4)
	}
}

// fault of a mesh: what its Check says of one that how was done to.
type fault struct {
	what string
	e    api.Errno
	how  func(m *api.Mesh)
}

// sound: a mesh for faults to be done to.
func sound() api.Mesh {
	var l []api.Peer
	for n := range api.MaxPeers {
		l = append(l, at(kept(0, n), kept(1, n%5), kept(2, n%4)))
	}
	return three(l...)
}

// faults of what is sound, each somewhere else, in the order in which they are
// told.
func faults() []fault {
	return []fault{
		{"too many versions", api.ErrMany, func(m *api.Mesh) { m.B.V = append(m.B.V, make([]api.Version, 10)...) }},
		{"a parent that isn't elder", api.ErrWho, func(m *api.Mesh) { m.B.V[0].Parents = []int{0} }},
		{"none is enough", api.ErrRange, func(m *api.Mesh) { m.B.V[1].P.Need = 0 }},
		{"a parent twice", api.ErrTwice, func(m *api.Mesh) { m.B.V[2].Parents = []int{0, 0} }},
		{"too many peers", api.ErrMany, func(m *api.Mesh) { m.P = append(m.P, api.Peer{}) }},
		{"room below 0", api.ErrRange, func(m *api.Mesh) { m.P[0].Room = -1 }},
		{"more than there is room for", api.ErrFull, func(m *api.Mesh) { m.P[1].Room = 2 }},
		{"a version that isn't", api.ErrWho, func(m *api.Mesh) { m.P[2].K[2].Version = 3 }},
		{"a version twice", api.ErrTwice, func(m *api.Mesh) { m.P[3].K[1] = m.P[3].K[0] }},
		{"a share that isn't", api.ErrWho, func(m *api.Mesh) { m.P[4].K[1].S.N = 5 }},
		{"no values", api.ErrForm, func(m *api.Mesh) { m.P[5].K[0].S.Values = nil }},
		{"a value that is no number", api.ErrRange, func(m *api.Mesh) { m.P[7].K[2].S.Values[1] = api.Prime }},
	}
}

// TestSpareOfNoMesh: Check's error comes first; of two the one that is told
// first; away or not.
func TestSpareOfNoMesh(t *testing.T) {
	all := faults()
	for i, first := range all {
		for k, second := range all[i:] {
			m := sound()
			first.how(&m)
			if k > 0 {
				second.how(&m)
			}
			for n := range m.P {
				m.P[n].There = n%3 != i%3
			}
			if e := mesh.Check(m); e != first.e {
				t.Fatalf("%s and %s: Check(%v): error %d, want %d", first.what, second.what, m, e, first.e)
			}
			for _, version := range append(outside(3), 0, 1, 2) {
				wantNoSpare(t, first.what+" and "+second.what, m, version, first.e)
			}
		}
	}
	for _, c := range all[:4] {
		m := sound()
		c.how(&m)
		wantNoSpare(t, c.what+", no peers", api.Mesh{B: m.B}, 0, c.e)
		wantNoSpare(t, c.what+", no peers", api.Mesh{B: m.B}, 50, c.e)
	}
	wantNoSpare(t, "very many peers", api.Mesh{P: make([]api.Peer, 100000)}, 0, api.ErrMany)
	wantNoSpare(t, "very many versions", api.Mesh{B: api.Book{V: make([]api.Version, 100000)}}, 0, api.ErrMany)
}
