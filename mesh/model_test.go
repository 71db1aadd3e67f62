package mesh

import (
	"slices"
	"testing"

	"cellarman/api"
)

// What the tests hold the program against: worked out here by hand, leaning on
// nothing of the program but its plain types.

// further: the value at place of the curve with these values at 0, 1 and so
// on, by its differences: the one of the order of their count is always 0.
func further(row []int, place int) int {
	factors := map[int][]int{1: {1}, 2: {2, -1}, 3: {3, -3, 1}, 4: {4, -6, 4, -1}}[len(row)]
	l := slices.Clone(row)
	for len(l) <= place {
		v := 0
		for j, f := range factors {
			v += f * l[len(l)-1-j]
		}
		l = append(l, (v%api.Prime+api.Prime)%api.Prime)
	}
	return l[place]
}

// sharesOf data, by need of of.
func sharesOf(data []int, need, of int) []api.Share {
	whole := slices.Clone(data)
	for len(whole)%need != 0 {
		whole = append(whole, 0)
	}
	var l []api.Share
	for k := range of {
		s := api.Share{N: k}
		for row := range slices.Chunk(whole, need) {
			s.Values = append(s.Values, further(row, k))
		}
		l = append(l, s)
	}
	return l
}

// content of many numbers from a rule, another one for each first.
func content(many, first int) []int {
	l := make([]int, many)
	for k := range l {
		l[k] = (first + 3*k + k*k) % api.Prime
	}
	return l
}

// rule gives number after number that look as if they had no order, the same
// ones in each run.
func rule() func(below int) int {
	state := uint32(2463534242)
	return func(below int) int {
		state ^= state << 13
		state ^= state >> 17
		state ^= state << 5
		return int(state>>8) % below
	}
}

// copied: a deep copy of m.
func copied(m api.Mesh) api.Mesh {
	m.B.V = slices.Clone(m.B.V)
	for k, v := range m.B.V {
		m.B.V[k].Parents = slices.Clone(v.Parents)
	}
	m.P = slices.Clone(m.P)
	for n, p := range m.P {
		m.P[n].K = slices.Clone(p.K)
		for i, k := range p.K {
			m.P[n].K[i].S.Values = slices.Clone(k.S.Values)
		}
	}
	return m
}

// alike: are two meshes alike?
func alike(a, b api.Mesh) bool {
	versions := func(v, w api.Version) bool { return slices.Equal(v.Parents, w.Parents) && v.P == w.P }
	kept := func(k, l api.Kept) bool { return k.Version == l.Version && likeShares(k.S, l.S) }
	peers := func(p, q api.Peer) bool {
		return p.There == q.There && p.Room == q.Room && slices.EqualFunc(p.K, q.K, kept)
	}
	return slices.EqualFunc(a.B.V, b.B.V, versions) && slices.EqualFunc(a.P, b.P, peers)
}

func likeShares(s, r api.Share) bool { return s.N == r.N && slices.Equal(s.Values, r.Values) }

// nothing: is all of m zero?
func nothing(m api.Mesh) bool { return m.B.V == nil && m.P == nil }

// empty: a mesh of peers that are there, with this room each.
func empty(room ...int) api.Mesh {
	var m api.Mesh
	for _, r := range room {
		m.P = append(m.P, api.Peer{There: true, Room: r})
	}
	return m
}

// with: m with a version of these parents behind all, that nobody keeps.
func with(m api.Mesh, p api.Plan, parents ...int) api.Mesh {
	m = copied(m)
	m.B.V = append(m.B.V, api.Version{Parents: parents, P: p})
	return m
}

// give: peer n keeps s of this version, too.
func give(m *api.Mesh, n, version int, s api.Share) {
	at := 0
	for at < len(m.P[n].K) && m.P[n].K[at].Version < version {
		at++
	}
	k := api.Kept{Version: version, S: api.Share{N: s.N, Values: slices.Clone(s.Values)}}
	m.P[n].K = slices.Insert(m.P[n].K, at, k)
}

// take: peer n keeps nothing of this version.
func take(m *api.Mesh, n, version int) {
	m.P[n].K = slices.DeleteFunc(m.P[n].K, func(k api.Kept) bool { return k.Version == version })
}

// held: what peer n has of this version; nil, if it isn't there, or has nothing.
func held(m api.Mesh, n, version int) *api.Share {
	for i, k := range m.P[n].K {
		if m.P[n].There && k.Version == version {
			return &m.P[n].K[i].S
		}
	}
	return nil
}

// bend: what peer n has of this version has another value, not always the first.
func bend(m *api.Mesh, n, version, amount int) {
	l := held(*m, n, version).Values
	l[amount%len(l)] = (l[amount%len(l)] + amount) % api.Prime
}

// leave: these peers aren't there.
func leave(m *api.Mesh, who ...int) {
	for _, n := range who {
		m.P[n].There = false
	}
}

// firsts: the shares that are there of this version, of like N the first one's.
func firsts(m api.Mesh, version int) []api.Share {
	var l []api.Share
	for n := range m.P {
		s := held(m, n, version)
		if s != nil && !slices.ContainsFunc(l, func(r api.Share) bool { return r.N == s.N }) {
			l = append(l, *s)
		}
	}
	return l
}

// takers: who gets something of this version, room by room, from the most on.
func takers(m api.Mesh, version int) []int {
	var who []int
	for room := api.MaxRoom; room > 0; room-- {
		for n, p := range m.P {
			if p.There && len(p.K)+room == p.Room && held(m, n, version) == nil {
				who = append(who, n)
			}
		}
	}
	return who
}

// handOut: these shares are kept by as many as take them.
func handOut(m api.Mesh, version int, l []api.Share) (api.Mesh, api.Errno) {
	who := takers(m, version)
	if len(who) < len(l) {
		return api.Mesh{}, api.ErrShort
	}
	for i, s := range l {
		give(&m, who[i], version, s)
	}
	return m, api.OK
}

// saved: what Save makes of what has none of chapter 3's and 5's errors.
func saved(m api.Mesh, data, parents []int, need, of int) (api.Mesh, api.Errno) {
	made := with(m, api.Plan{Need: need, Of: of, Size: len(data)}, parents...)
	return handOut(made, len(m.B.V), sharesOf(data, need, of))
}

// repaired: what Repair makes of m, if that is the version's content.
func repaired(m api.Mesh, version int, data []int) (api.Mesh, api.Errno) {
	p := m.B.V[version].P
	all := sharesOf(data, p.Need, p.Of)
	made := copied(m)
	has := make([]int, p.Of)
	for n := range m.P {
		s := held(m, n, version)
		if s == nil {
			continue
		}
		good := likeShares(*s, all[s.N])
		if !good || has[s.N] > 0 {
			take(&made, n, version)
		}
		if good {
			has[s.N]++
		}
	}
	lacking := slices.DeleteFunc(all, func(s api.Share) bool { return has[s.N] > 0 })
	return handOut(made, version, lacking)
}

// isWhole: does one peer that is there, and no more, keep each share of data?
func isWhole(m api.Mesh, version int, data []int) bool {
	p := m.B.V[version].P
	all := sharesOf(data, p.Need, p.Of)
	has := make([]int, p.Of)
	for n := range m.P {
		if s := held(m, n, version); s != nil {
			if !likeShares(*s, all[s.N]) {
				return false
			}
			has[s.N]++
		}
	}
	return !slices.ContainsFunc(has, func(many int) bool { return many != 1 })
}

// mustSave: m with a version more, which there is place for.
func mustSave(t *testing.T, m api.Mesh, data, parents []int, need, of int) api.Mesh {
	t.Helper()
	made, e := saved(m, data, parents, need, of)
	if e != api.OK {
		t.Fatalf("there is no place for %v, by %d of %d", data, need, of)
	}
	return made
}

// wantRestore: this content is found, and just these others.
func wantRestore(t *testing.T, what string, m api.Mesh, version int, data []int, others ...int) {
	t.Helper()
	got, gotOthers, e := Restore(m, version)
	if e != api.OK || !slices.Equal(got, data) || !slices.Equal(gotOthers, others) {
		t.Fatalf("%s: Restore(%v, %d): %v, others %v, error %d, want %v, others %v", what, m, version, got, gotOthers, e, data, others)
	}
}

// wantLost: Restore and Repair have this error, and answer nothing beside it.
func wantLost(t *testing.T, what string, m api.Mesh, version int, want api.Errno) {
	t.Helper()
	if data, others, e := Restore(m, version); e != want || data != nil || others != nil {
		t.Fatalf("%s: Restore(%v, %d): %v, others %v, error %d, want error %d", what, m, version, data, others, e, want)
	}
	wantUnrepaired(t, what, m, version, want)
}

// wantUnrepaired: Repair has this error, and answers nothing beside it.
func wantUnrepaired(t *testing.T, what string, m api.Mesh, version int, want api.Errno) {
	t.Helper()
	if made, e := Repair(m, version); e != want || !nothing(made) {
		t.Fatalf("%s: Repair(%v, %d): %v, error %d, want error %d", what, m, version, made, e, want)
	}
}

// wantRepair: this mesh is made; of that nothing is to be repaired.
func wantRepair(t *testing.T, what string, m api.Mesh, version int, want api.Mesh) {
	t.Helper()
	made, e := Repair(m, version)
	if e != api.OK || !alike(made, want) {
		t.Fatalf("%s: Repair(%v, %d): %v, error %d, want %v", what, m, version, made, e, want)
	}
	if again, e := Repair(made, version); e != api.OK || !alike(again, want) {
		t.Fatalf("%s: Repair(%v, %d), repaired: %v, error %d", what, made, version, again, e)
	}
}

// wantSave: this mesh is made.
func wantSave(t *testing.T, what string, m api.Mesh, data, parents []int, need, of int, want api.Mesh) {
	t.Helper()
	made, e := Save(m, data, parents, need, of)
	if e != api.OK || !alike(made, want) {
		t.Fatalf("%s: Save(%v, %v, %v, %d, %d): %v, error %d, want %v", what, m, data, parents, need, of, made, e, want)
	}
	if e := Check(made); e != api.OK {
		t.Fatalf("%s: Save(%v, %v, %v, %d, %d): %v, Check's error %d", what, m, data, parents, need, of, made, e)
	}
}

// wantUnsaved: Save has this error, and answers nothing beside it.
func wantUnsaved(t *testing.T, what string, m api.Mesh, data, parents []int, need, of int, want api.Errno) {
	t.Helper()
	if made, e := Save(m, data, parents, need, of); e != want || !nothing(made) {
		t.Fatalf("%s: Save(%v, %v, %v, %d, %d): %v, error %d, want error %d", what, m, data, parents, need, of, made, e, want)
	}
}

// wantMany: what was made by a rule came out often enough each way.
func wantMany(t *testing.T, seen, few map[api.Errno]int) {
	t.Helper()
	for e, many := range few {
		if seen[e] < many {
			t.Errorf("error %d came %d times, want %d or more", e, seen[e], many)
		}
	}
}
