package audit

import (
	"slices"
	"testing"

	"cellarman/api"
	"cellarman/mesh"
)

// small: the document's example, 5 7 9 by 2 of 3, in a mesh of five peers, of
// which the last two keep nothing.
func small() api.Mesh {
	m := with(empty(5), api.Plan{Need: 2, Of: 3, Size: 3})
	give(&m, 0, 0, api.Share{N: 0, Values: []int{5, 9}})
	give(&m, 1, 0, api.Share{N: 1, Values: []int{7, 0}})
	give(&m, 2, 0, api.Share{N: 2, Values: []int{9, 22}})
	return m
}

func TestWrittenOut(t *testing.T) {
	m := small()
	wantBlamed(t, "all as they should be", m, 0)
	wantLacking(t, "all are there", m, 0, 0)
	give(&m, 4, 0, api.Share{N: 1, Values: []int{7, 1}})
	wantBlamed(t, "a bent one with like number behind", m, 0, 4)
	give(&m, 3, 0, api.Share{N: 2, Values: []int{9, 22}})
	wantBlamed(t, "another one as it should be", m, 0, 4)
	wantLacking(t, "two are there twice", m, 0, 0)
	leave(&m, 1)
	wantBlamed(t, "of two with like number the bent one is left", m, 0, 4)
	wantLacking(t, "of two with like number the bent one is left", m, 0, 0)
	lose(&m, 4, 0)
	wantBlamed(t, "the bent one is lost", m, 0)
	wantLacking(t, "one is away that keeps 1", m, 0, 1)
	leave(&m, 2)
	wantLacking(t, "another one keeps 2", m, 0, 1)
	leave(&m, 3)
	wantLacking(t, "both are away that keep 2", m, 0, 2)
	wantUnblamed(t, "one isn't enough", m, 0, api.ErrShort)
	leave(&m, 0)
	wantLacking(t, "all are away", m, 0, 3)
}

// TestWhoIsBlamed: 20 10 5 6 7 by 2 of 6, of which two may be bent.
func TestWhoIsBlamed(t *testing.T) {
	data := []int{20, 10, 5, 6, 7}
	base := spread(spread(empty(8), content(3, 1), 2, 8, 0), data, 2, 6, 5)
	all := sharesOf(data, 2, 6)
	for n := range 3 {
		m := copied(base)
		bend(&m, n, 1, 3)
		wantBlamed(t, "the only one with its number", m, 1, n)
		give(&m, 3, 1, *held(base, n, 1))
		wantBlamed(t, "the first one with its number", m, 1, n)
		bend(&m, 3, 1, 3)
		wantBlamed(t, "two with like number, bent alike", m, 1, n, 3)
		bend(&m, 3, 1, 4)
		wantBlamed(t, "two with like number, bent unlike", m, 1, n, 3)
		m.P[n].K[1].S = api.Share{N: held(base, n, 1).N, Values: slices.Clone(held(base, n, 1).Values)}
		wantBlamed(t, "a later one with its number", m, 1, 3)
		give(&m, 4, 1, all[(n+4)%6])
		bend(&m, 4, 1, 29)
		wantBlamed(t, "later ones with two numbers", m, 1, 3, 4)
		leave(&m, 4)
		wantBlamed(t, "one of them is away", m, 1, 3)
		leave(&m, 3)
		wantBlamed(t, "all of them are away", m, 1)
		wantBlamed(t, "of another version none is bent", m, 0)
	}
}

// TestEachValue: whichever of its values is bent, a little or far.
func TestEachValue(t *testing.T) {
	whole := spread(spread(empty(8), content(7, 2), 1, 8, 0), content(api.MaxData, 5), 4, 8, 3)
	for n := range whole.P {
		for at := range held(whole, n, 1).Values {
			for _, amount := range []int{1, 16, api.Prime - 1} {
				m := copied(whole)
				l := held(m, n, 1).Values
				l[at] = (l[at] + amount) % api.Prime
				wantBlamed(t, "one value is bent", m, 1, n)
				wantBlamed(t, "one value of another version is bent", m, 0)
			}
		}
	}
}

// each Need of each Of, with contents of one row or several, whole and not.
func eachPlan(ask func(p api.Plan)) {
	for need := 1; need <= api.MaxNeed; need++ {
		for of := need; of <= api.MaxShares; of++ {
			for _, size := range slices.Compact([]int{1, need, need + 1, api.MaxData}) {
				ask(api.Plan{Need: need, Of: of, Size: size})
			}
		}
	}
}

// TestWhoeverLeaves: of each plan's shares, enough and too few.
func TestWhoeverLeaves(t *testing.T) {
	first := 0
	eachPlan(func(p api.Plan) {
		first++
		whole := spread(spread(empty(8), content(3, 1), 1, 5, first+3), content(p.Size, first), p.Need, p.Of, first)
		for choice := range 1 << len(whole.P) {
			m := stay(whole, choice)
			has := len(firsts(m, 1))
			wantLacking(t, "some left", m, 1, p.Of-has)
			if has < p.Need {
				wantUnblamed(t, "too few", m, 1, api.ErrShort)
			} else {
				wantBlamed(t, "enough", m, 1)
			}
		}
	})
}

// TestWhoeverIsBent: of each plan's shares, as many as may be bent, and more.
func TestWhoeverIsBent(t *testing.T) {
	first := 0
	eachPlan(func(p api.Plan) {
		first++
		data := content(p.Size, first)
		whole := spread(spread(empty(8), content(4, 3), 2, 8, 0), data, p.Need, p.Of, first)
		for choice := range 1 << len(whole.P) {
			m := copied(whole)
			var bent []int
			for n := range m.P {
				if held(m, n, 1) != nil && choice>>n&1 > 0 {
					bend(&m, n, 1, 1+(choice+n)%30)
					bent = append(bent, n)
				}
			}
			wantLacking(t, "bent ones don't lack", m, 1, 0)
			wantBlamed(t, "of another version none is bent", m, 0)
			switch {
			case len(bent) == 0 || 2*len(bent) < p.Of-p.Need:
				wantBlamed(t, "some are bent", m, 1, bent...)
			case choice%11 == 0:
				compare(t, "many are bent", m, 1)
			}
		}
	})
}

// TestNothingThere: no peers, and peers that keep nothing, or not this version.
func TestNothingThere(t *testing.T) {
	eachPlan(func(p api.Plan) {
		for many := range api.MaxPeers + 1 {
			m := with(empty(many), p)
			wantLacking(t, "nobody keeps it", m, 0, p.Of)
			wantUnblamed(t, "nobody keeps it", m, 0, api.ErrShort)
		}
		m := with(spread(empty(8), content(5, 9), 1, 8, 0), p)
		wantLacking(t, "another version is kept", m, 1, p.Of)
		wantUnblamed(t, "another version is kept", m, 1, api.ErrShort)
		wantLacking(t, "the one that is kept", m, 0, 0)
		wantBlamed(t, "the one that is kept", m, 0)
		m.P = nil
		wantLacking(t, "there are no peers", m, 0, 8)
		wantUnblamed(t, "there are no peers", m, 0, api.ErrShort)
		wantLacking(t, "there are no peers", m, 1, p.Of)
	})
}

// TestMostVersions: each of api.MaxVersions has its own shares, lost and bent.
func TestMostVersions(t *testing.T) {
	m := empty(api.MaxPeers)
	for v := range api.MaxVersions {
		m = spread(m, content(1+2*v, v), 1+v%3, 5+v%4, v)
	}
	for v := range api.MaxVersions {
		n := (v + 2) % api.MaxPeers
		bent := copied(m)
		bend(&bent, n, v, 1+v)
		lose(&bent, v%api.MaxPeers, v)
		for w := range api.MaxVersions {
			if w != v {
				wantBlamed(t, "another version", bent, w)
				wantLacking(t, "another version", bent, w, 0)
			}
		}
		compare(t, "the version of which one is bent and one lost", bent, v)
		wantLacking(t, "the version of which one is bent and one lost", bent, v, 1)
	}
}

// TestOneKeepsAll: alone with one share of each version.
func TestOneKeepsAll(t *testing.T) {
	m := empty(1)
	for v := range api.MaxVersions {
		m = with(m, api.Plan{Need: 1, Of: 1 + v%8, Size: 1 + v})
		give(&m, 0, v, sharesOf(content(1+v, v), 1, 1+v%8)[v%8])
	}
	for v := range api.MaxVersions {
		wantBlamed(t, "it is enough alone", m, v)
		wantLacking(t, "it is enough alone", m, v, v%8)
	}
}

// TestBehindSaveAndRepair: nobody is to blame, and nothing lacks.
func TestBehindSaveAndRepair(t *testing.T) {
	eachPlan(func(p api.Plan) {
		m, e := mesh.Save(spread(empty(8), content(4, 7), 2, 6, 5), content(p.Size, p.Of), []int{0}, p.Need, p.Of)
		if e != api.OK {
			t.Fatalf("%v can't be saved: error %d", p, e)
		}
		wantBlamed(t, "behind a save", m, 1)
		wantLacking(t, "behind a save", m, 1, 0)
		for n := range m.P {
			hurt := copied(m)
			if held(hurt, (n+1)%8, 1) != nil {
				bend(&hurt, (n+1)%8, 1, 6)
			}
			lose(&hurt, n, 1)
			fixed, e := mesh.Repair(hurt, 1)
			if e != api.OK {
				wantUnblamed(t, "it can't be repaired", hurt, 1, e)
				continue
			}
			wantBlamed(t, "behind a repair", fixed, 1)
			wantLacking(t, "behind a repair", fixed, 1, 0)
			wantBlamed(t, "another version, behind a repair", fixed, 0)
		}
	})
}

// TestSmallOnes: each mesh of three peers, by 1 of 2, and of four, by 2 of 3,
// each of which is there or away, and keeps of the shares one of several
// values, or none.
func TestSmallOnes(t *testing.T) {
	for _, c := range []struct {
		p            api.Plan
		peers, below int
	}{
		{api.Plan{Need: 1, Of: 2, Size: 1}, 3, 4},
		{api.Plan{Need: 2, Of: 3, Size: 1}, 4, 2},
		{api.Plan{Need: 2, Of: 3, Size: 2}, 4, 2},
	} {
		base := with(empty(c.peers), c.p)
		states, all := c.p.Of*c.below+1, 1
		for range c.peers {
			all *= 2 * states
		}
		seen := map[api.Errno]int{}
		for choice := range all {
			m := copied(base)
			for n, left := 0, choice; n < c.peers; n, left = n+1, left/(2*states) {
				if k := left % states; k < states-1 {
					give(&m, n, 0, api.Share{N: k % c.p.Of, Values: []int{k / c.p.Of}})
				}
				m.P[n].There = left/states%2 == 0
			}
			seen[compare(t, "a small one", m, 0)]++
		}
		wantMany(t, seen, map[api.Errno]int{api.OK: all / 8, api.ErrShort: all / 8})
	}
}

// muddle: a mesh of some versions, of whose shares each peer may keep some one,
// many bent, others twice; some peers are away.
func muddle(some func(below int) int) api.Mesh {
	m := empty(some(api.MaxPeers + 1))
	for v := range 1 + some(3) {
		need := 1 + some(api.MaxNeed)
		p := api.Plan{Need: need, Of: need + some(api.MaxShares+1-need), Size: 1 + some(6)}
		m = with(m, p)
		all := sharesOf(content(p.Size, some(api.Prime)), p.Need, p.Of)
		for n := range m.P {
			if some(6) > 0 {
				give(&m, n, v, all[(n+some(2)*some(8))%p.Of])
			}
			if held(m, n, v) != nil && some(4) == 0 {
				bend(&m, n, v, 1+some(3))
			}
		}
	}
	for n := range m.P {
		m.P[n].There = some(5) > 0
	}
	return m
}

func TestMuddles(t *testing.T) {
	seen := map[api.Errno]int{}
	some := rule()
	for range 6000 {
		m := muddle(some)
		for v := range m.B.V {
			seen[compare(t, "a muddle", m, v)]++
		}
	}
	wantMany(t, seen, map[api.Errno]int{api.OK: 2000, api.ErrShort: 2000, api.ErrTorn: 20})
}
