package mesh

import (
	"math"
	"testing"

	"cellarman/api"
	"cellarman/vote"
)

// noVersions of a book of so many.
func noVersions(many int) []int {
	return []int{math.MinInt, -2, -1, many, many + 1, 100, math.MaxInt}
}

// muddle: a mesh of some versions, of whose shares each peer may keep some one,
// many bent, others twice; some peers are away, some have no more room.
func muddle(t *testing.T, some func(below int) int) api.Mesh {
	t.Helper()
	var m api.Mesh
	for range some(api.MaxPeers + 1) {
		m.P = append(m.P, api.Peer{There: some(4) > 0})
	}
	for v := range 1 + some(3) {
		need := 1 + some(api.MaxNeed)
		p := api.Plan{Need: need, Of: need + some(api.MaxShares+1-need), Size: 1 + some(6)}
		m = with(m, p)
		all := sharesOf(content(p.Size, some(api.Prime)), p.Need, p.Of)
		for n := range m.P {
			if some(5) > 0 {
				s := all[(n+some(2)*some(8))%p.Of]
				give(&m, n, v, s)
			}
			if s := held(m, n, v); s != nil && some(5) == 0 {
				bend(&m, n, v, 1+some(3))
			}
		}
	}
	for n, p := range m.P {
		m.P[n].Room = len(p.K) + some(3)
	}
	if e := Check(m); e != api.OK {
		t.Fatalf("Check(%v): error %d", m, e)
	}
	return m
}

// compareRepair: does Repair answer what is worked out beside it?
func compareRepair(t *testing.T, what string, m api.Mesh, version int) api.Errno {
	t.Helper()
	data, _, e := vote.Most(m.B.V[version].P, firsts(m, version))
	if e != api.OK {
		wantUnrepaired(t, what, m, version, e)
		return e
	}
	want, e := repaired(m, version, data)
	if e != api.OK {
		wantUnrepaired(t, what, m, version, e)
		return e
	}
	wantRepair(t, what, m, version, want)
	wantRestore(t, what+", repaired", want, version, data)
	if !isWhole(want, version, data) {
		t.Fatalf("%s: Repair(%v, %d): %v isn't whole", what, m, version, want)
	}
	return api.OK
}

func TestRepairMuddles(t *testing.T) {
	seen := map[api.Errno]int{}
	some := rule()
	for range 6000 {
		m := muddle(t, some)
		for v := range m.B.V {
			seen[compareRepair(t, "a muddle", m, v)]++
		}
	}
	wantMany(t, seen, map[api.Errno]int{api.OK: 2000, api.ErrShort: 2000, api.ErrTorn: 20})
}

// TestAllSmallOnes: three peers, each of which is there or away, is full or
// not, and keeps of two shares one as it was, bent, another bent, or none.
func TestAllSmallOnes(t *testing.T) {
	base := with(empty(0, 0, 0), api.Plan{Need: 1, Of: 2, Size: 1})
	seen := map[api.Errno]int{}
	for choice := range 28 * 28 * 28 {
		m := copied(base)
		for n, left := 0, choice; n < 3; n, left = n+1, left/28 {
			if k := left % 7; k < 6 {
				give(&m, n, 0, api.Share{N: k % 2, Values: []int{k / 2}})
			}
			m.P[n].Room = len(m.P[n].K) + left/7%2
			m.P[n].There = left/14%2 == 0
		}
		seen[compareRepair(t, "a small one", m, 0)]++
	}
	wantMany(t, seen, map[api.Errno]int{api.OK: 4000, api.ErrShort: 4000})
}

// TestRepairWhoeverLeaves: what is repaired is whole again, if there are enough
// others who can take what lacks (P9.4).
func TestRepairWhoeverLeaves(t *testing.T) {
	eachPlan(func(p api.Plan) {
		data := content(p.Size, p.Need+p.Of)
		m := mustSave(t, spare(t), data, []int{2}, p.Need, p.Of)
		for choice := range 1 << api.MaxPeers {
			left := stay(m, choice)
			has, can := len(firsts(left, 3)), len(takers(left, 3))
			want := api.ErrShort
			if has >= p.Need && has+can >= p.Of {
				want = api.OK
			}
			if e := compareRepair(t, "some left", left, 3); e != want {
				t.Fatalf("%d of %d are there, %d can take one: error %d", has, p.Of, can, e)
			}
		}
	})
}

// family: a mesh of six peers; 20 10 5 6 7 by 3 of 5 is version 1, its shares 0
// to 4 are kept by the peers 4, 2, 3, 1 and 0.
func family(t *testing.T) (api.Mesh, []api.Share) {
	t.Helper()
	m := mustSave(t, empty(3, 4, 5, 6, 7, 2), content(4, 9), nil, 2, 2)
	m = mustSave(t, m, []int{20, 10, 5, 6, 7}, []int{0}, 3, 5)
	return m, sharesOf([]int{20, 10, 5, 6, 7}, 3, 5)
}

// TestRepairByHand: what goes, what stays, and who gets what lacks.
func TestRepairByHand(t *testing.T) {
	m, all := family(t)
	whole := copied(m)
	wantRepair(t, "nothing lacks", m, 1, whole)
	for n := range 5 {
		bent := copied(whole)
		bend(&bent, n, 1, 4)
		wantRepair(t, "one is bent, and whose it was has the most room left", bent, 1, whole)
		bent.P[5].Room = 9
		fixed := copied(bent)
		take(&fixed, n, 1)
		give(&fixed, 5, 1, *held(whole, n, 1))
		wantRepair(t, "one is bent, and another one has more room left", bent, 1, fixed)
	}
	lost := copied(whole)
	take(&lost, 1, 1)
	take(&lost, 3, 1)
	wantRepair(t, "two lack", lost, 1, whole)
	lost.P[5].Room = 6
	fixed := copied(lost)
	give(&fixed, 5, 1, all[2])
	give(&fixed, 3, 1, all[3])
	wantRepair(t, "two lack, and another one has the most room left", lost, 1, fixed)
	twice := copied(whole)
	give(&twice, 5, 1, all[2])
	wantRepair(t, "one is there twice, the first one ahead", twice, 1, whole)
	twice = copied(whole)
	take(&twice, 0, 1)
	give(&twice, 0, 1, all[1])
	give(&twice, 5, 1, all[4])
	fixed = copied(twice)
	take(&fixed, 2, 1)
	wantRepair(t, "one is there twice, another one ahead", twice, 1, fixed)
}

// TestRepairTwice: of like shares the first that is as it should be stays, be
// others bent, or away.
func TestRepairTwice(t *testing.T) {
	m, all := family(t)
	first := held(m, 0, 1).N
	give(&m, 5, 1, all[first])
	bent := copied(m)
	bend(&bent, 0, 1, 1)
	fixed := copied(bent)
	take(&fixed, 0, 1)
	wantRepair(t, "the first one is bent", bent, 1, fixed)
	bent = copied(m)
	bend(&bent, 5, 1, 1)
	fixed = copied(m)
	take(&fixed, 5, 1)
	wantRepair(t, "the second one is bent", bent, 1, fixed)
	bend(&bent, 0, 1, 1)
	fixed = copied(bent)
	take(&fixed, 0, 1)
	take(&fixed, 5, 1)
	give(&fixed, 0, 1, all[first])
	wantRepair(t, "both are bent", bent, 1, fixed)
	away := copied(m)
	leave(&away, 0)
	wantRepair(t, "the first one is away", away, 1, away)
	bend(&away, 5, 1, 1)
	want := copied(away)
	take(&want, 5, 1)
	give(&want, 5, 1, all[first])
	wantRepair(t, "the first one is away, the other one is bent", away, 1, want)
}

// TestAwayStay: whoever is away stays as it is, bent or twice.
func TestAwayStay(t *testing.T) {
	m, all := family(t)
	give(&m, 5, 1, all[0])
	for n := range m.P {
		bent := copied(m)
		bend(&bent, n, 1, 2)
		leave(&bent, n)
		made, e := Repair(bent, 1)
		if e != api.OK || len(made.P[n].K) != len(bent.P[n].K) {
			t.Fatalf("Repair(%v, 1): %v, error %d", bent, made, e)
		}
		for i, k := range made.P[n].K {
			if made.P[n].There || !likeShares(k.S, bent.P[n].K[i].S) {
				t.Errorf("Repair(%v, 1): %v: peer %d isn't as it was", bent, made, n)
			}
		}
	}
}

// TestRepairOneVersion: what is kept of others stays, bent or lost as it is.
func TestRepairOneVersion(t *testing.T) {
	m := spare(t)
	for n := range m.P {
		for v := range m.B.V {
			if s := held(m, n, v); s != nil && n%3 == 0 {
				bend(&m, n, v, 7)
			}
		}
	}
	for v := range m.B.V {
		made, e := Repair(m, v)
		if e != api.OK {
			t.Fatalf("Repair(%v, %d): error %d", m, v, e)
		}
		for n := range m.P {
			take(&made, n, v)
			rest := copied(m)
			take(&rest, n, v)
			if !alike(api.Mesh{P: made.P[n : n+1]}, api.Mesh{P: rest.P[n : n+1]}) {
				t.Errorf("Repair(%v, %d): peer %d keeps else than it did", m, v, n)
			}
		}
	}
}

// TestNoRoomToRepair: what lacks can't be kept by those that are there.
func TestNoRoomToRepair(t *testing.T) {
	full := mustSave(t, empty(1, 1, 1), []int{1, 2}, nil, 1, 3)
	for n := range 3 {
		m := copied(full)
		leave(&m, n)
		wantUnrepaired(t, "one left", m, 0, api.ErrShort)
		m.P = append(m.P, api.Peer{There: true})
		wantUnrepaired(t, "another one has no room", m, 0, api.ErrShort)
		m.P = append(m.P, api.Peer{Room: 1})
		wantUnrepaired(t, "another one has room, but is away", m, 0, api.ErrShort)
		m.P = append(m.P, api.Peer{There: true, Room: 1})
		want := copied(m)
		give(&want, 5, 0, *held(full, n, 0))
		wantRepair(t, "another one has room", m, 0, want)
		bent := copied(full)
		bend(&bent, n, 0, 1)
		wantRepair(t, "whose was bent has room again", bent, 0, full)
	}
	m := mustSave(t, empty(1, 1), []int{4}, nil, 1, 2)
	spread := with(empty(2, 2), api.Plan{Need: 1, Of: 3, Size: 1})
	give(&spread, 0, 0, *held(m, 0, 0))
	wantUnrepaired(t, "two lack, one can", spread, 0, api.ErrShort)
	spread.P = append(spread.P, api.Peer{There: true, Room: 1})
	want := copied(spread)
	give(&want, 1, 0, api.Share{N: 1, Values: []int{4}})
	give(&want, 2, 0, api.Share{N: 2, Values: []int{4}})
	wantRepair(t, "two lack, two can", spread, 0, want)
}

// TestHistory: saved, lost, bent, left, come again and repaired, in no order.
func TestHistory(t *testing.T) {
	some := rule()
	seen := map[api.Errno]int{}
	for range 60 {
		m := empty(3, 9, 4, 12, 2, 6, api.MaxRoom, 5)
		for range 60 {
			n, v := some(api.MaxPeers), some(1+len(m.B.V))
			switch some(6) {
			case 0, 1:
				m.P[n].There = !m.P[n].There
			case 2:
				if v < len(m.B.V) && held(m, n, v) != nil {
					bend(&m, n, v, 1+some(30))
				}
			case 3:
				need := 1 + some(api.MaxNeed)
				m = savedOrNot(t, m, content(1+some(api.MaxData), some(31)), []int{v}[:some(2)], need, need+some(5))
			default:
				if v < len(m.B.V) {
					e := compareRepair(t, "a history", m, v)
					seen[e]++
					if e == api.OK {
						m, _ = Repair(m, v)
					}
				}
			}
		}
	}
	wantMany(t, seen, map[api.Errno]int{api.OK: 200, api.ErrShort: 100})
}

// savedOrNot: what Save makes of m, or m, if it has an error; both as is worked
// out beside it.
func savedOrNot(t *testing.T, m api.Mesh, data, parents []int, need, of int) api.Mesh {
	t.Helper()
	want, e := saved(m, data, parents, need, of)
	switch {
	case len(m.B.V) == api.MaxVersions:
		e = api.ErrMany
	case len(parents) > 0 && parents[0] >= len(m.B.V):
		e = api.ErrWho
	}
	if e != api.OK {
		wantUnsaved(t, "a history", m, data, parents, need, of, e)
		return m
	}
	wantSave(t, "a history", m, data, parents, need, of, want)
	return want
}
