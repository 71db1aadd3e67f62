package mesh

import (
	"slices"
	"testing"

	"cellarman/api"
	"cellarman/vote"
)

// each Need of each Of, with contents of one row or several, whole and not.
func eachPlan(ask func(p api.Plan)) {
	for need := 1; need <= api.MaxNeed; need++ {
		for of := need; of <= api.MaxShares; of++ {
			sizes := []int{1, need, need + 1, api.MaxData}
			for _, size := range slices.Compact(sizes) {
				ask(api.Plan{Need: need, Of: of, Size: size})
			}
		}
	}
}

// spare: three versions in a mesh of most peers, of more and of less room.
func spare(t *testing.T) api.Mesh {
	m := empty(5, 7, 6, api.MaxRoom, 4, 6, 9, 8)
	m = mustSave(t, m, content(3, 5), nil, 1, 3)
	m = mustSave(t, m, content(9, 6), []int{0}, 4, 8)
	return mustSave(t, m, content(2, 7), []int{0, 1}, 2, 5)
}

// stay: only those peers are there of which choice has the bit.
func stay(m api.Mesh, choice int) api.Mesh {
	m = copied(m)
	for n := range m.P {
		m.P[n].There = choice>>n&1 > 0
	}
	return m
}

// TestAnyNeedAreEnough: whoever else leaves (P9.4).
func TestAnyNeedAreEnough(t *testing.T) {
	eachPlan(func(p api.Plan) {
		data := content(p.Size, p.Of)
		m, e := Save(spare(t), data, nil, p.Need, p.Of)
		if e != api.OK {
			t.Fatalf("%v can't be saved: error %d", p, e)
		}
		for choice := range 1 << api.MaxPeers {
			left := stay(m, choice)
			if len(firsts(left, 3)) < p.Need {
				wantLost(t, "too few", left, 3, api.ErrShort)
			} else {
				wantRestore(t, "enough", left, 3, data)
			}
		}
	})
}

// TestSharesThatAreThere: which ones they are, and in which order.
func TestSharesThatAreThere(t *testing.T) {
	base := with(empty(1, 1, 1, 1, 1), api.Plan{Need: 1, Of: 3, Size: 1})
	keep := func(l ...int) api.Mesh {
		m := copied(base)
		for n, v := range l {
			if v >= 0 {
				give(&m, n, 0, api.Share{N: v / 100, Values: []int{v % 100}})
			}
		}
		return m
	}
	wantRestore(t, "two with like N, the second one else", keep(105, 106), 0, []int{5})
	wantRestore(t, "two with like N, the first one else", keep(106, 105, 5), 0, []int{6}, 0)
	wantRestore(t, "many with like N have one voice", keep(7, 8, 8, 8, 107), 0, []int{7})
	wantRestore(t, "peers' order, not that of N", keep(205, 106, 7), 0, []int{5}, 0, 1)
	wantRestore(t, "most, not the first one", keep(205, 106, 6), 0, []int{6}, 2)
	wantRestore(t, "some keep nothing", keep(-1, 9, -1, 209, -1), 0, []int{9})
	away := keep(105, 106, 206)
	leave(&away, 0)
	wantRestore(t, "the first one is away", away, 0, []int{6})
	away = keep(105, 106, 206)
	leave(&away, 1)
	wantRestore(t, "the second one is away", away, 0, []int{5}, 2)
	leave(&away, 0, 2)
	wantLost(t, "all are away that keep it", away, 0, api.ErrShort)
	wantLost(t, "nobody keeps it", base, 0, api.ErrShort)
	wantLost(t, "there are no peers", api.Mesh{B: base.B}, 0, api.ErrShort)
	two := with(empty(1, 1, 1), api.Plan{Need: 2, Of: 3, Size: 2})
	for n := range 3 {
		give(&two, n, 0, api.Share{N: 1, Values: []int{n}})
	}
	wantLost(t, "two are enough, but not with like N", two, 0, api.ErrShort)
}

// TestBent: fewer than half of what is more than enough may be bent.
func TestBent(t *testing.T) {
	eachPlan(func(p api.Plan) {
		data := content(p.Size, p.Of+1)
		whole := mustSave(t, spare(t), data, []int{1}, p.Need, p.Of)
		for choice := range 1 << api.MaxPeers {
			m := copied(whole)
			var others []int
			for n := range m.P {
				if s := held(m, n, 3); s != nil && choice>>n&1 > 0 {
					bend(&m, n, 3, 1+choice%30)
					others = append(others, s.N)
				}
			}
			if 2*len(others) >= p.Of-p.Need && len(others) > 0 {
				continue
			}
			slices.Sort(others)
			wantRestore(t, "some are bent", m, 3, data, others...)
			fixed, e := Repair(m, 3)
			if e != api.OK || !isWhole(fixed, 3, data) {
				t.Fatalf("Repair(%v, 3): %v, error %d", m, fixed, e)
			}
		}
	})
}

// TestTorn: what is there is of nothing.
func TestTorn(t *testing.T) {
	m := mustSave(t, spare(t), content(3, 5), nil, 2, 2)
	for n := range m.P {
		if s := held(m, n, 3); s != nil {
			s.Values[1] = (s.Values[1] + 5*s.N + 1) % api.Prime
		}
	}
	wantLost(t, "behind the content there is something else than 0", m, 3, api.ErrTorn)
	for n := range m.P {
		m.P[n].Room = len(m.P[n].K)
	}
	wantLost(t, "torn, and there is no room", m, 3, api.ErrTorn)
	one := with(empty(1), api.Plan{Need: 2, Of: 2, Size: 1})
	give(&one, 0, 0, api.Share{N: 1, Values: []int{9}})
	wantLost(t, "one isn't enough", one, 0, api.ErrShort)
}

// TestRestoreErrors: no such version, whichever book it is.
func TestRestoreErrors(t *testing.T) {
	m := spare(t)
	for _, version := range noVersions(3) {
		wantLost(t, "no such version", m, version, api.ErrWho)
		wantLost(t, "no such version, and nobody is there", stay(m, 0), version, api.ErrWho)
	}
	for _, version := range noVersions(0) {
		wantLost(t, "an empty book", empty(1, 2), version, api.ErrWho)
		wantLost(t, "nothing at all", api.Mesh{}, version, api.ErrWho)
	}
	full := empty(api.MaxRoom)
	for range api.MaxVersions {
		full = with(full, api.Plan{Need: 1, Of: 1, Size: 1})
	}
	for _, version := range noVersions(api.MaxVersions) {
		wantLost(t, "the greatest book", full, version, api.ErrWho)
	}
	wantLost(t, "the last version, which nobody keeps", full, api.MaxVersions-1, api.ErrShort)
}

// TestRestoreIsAVote: of meshes in which much is bent, away, lost or twice it
// answers what chapter 4 makes of the shares that are there.
func TestRestoreIsAVote(t *testing.T) {
	seen := map[api.Errno]int{}
	some := rule()
	for range 3000 {
		m := muddle(t, some)
		for v := range m.B.V {
			data, others, e := vote.Most(m.B.V[v].P, firsts(m, v))
			seen[e]++
			if e != api.OK {
				wantLost(t, "a muddle", m, v, e)
				continue
			}
			wantRestore(t, "a muddle", m, v, data, others...)
		}
	}
	wantMany(t, seen, map[api.Errno]int{api.OK: 2000, api.ErrShort: 1000, api.ErrTorn: 10})
}
