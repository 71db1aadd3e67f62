package audit

import (
	"math/bits"
	"slices"
	"testing"

	"cellarman/api"
)

// What the tests hold the program against: worked out here by hand, leaning on
// nothing of the program but its plain types.

// through: the value at place of the curve through these points.
func through(x, y []int, place int) int {
	sum := 0
	for i := range x {
		upper, lower := y[i], 1
		for j := range x {
			if j != i {
				upper = upper * (place - x[j] + api.Prime) % api.Prime
				lower = lower * (x[i] - x[j] + api.Prime) % api.Prime
			}
		}
		for upper%lower != 0 {
			upper += api.Prime
		}
		sum += upper / lower
	}
	return sum % api.Prime
}

// sharesOf data, by need of of.
func sharesOf(data []int, need, of int) []api.Share {
	whole := slices.Clone(data)
	for len(whole)%need != 0 {
		whole = append(whole, 0)
	}
	places := []int{0, 1, 2, 3}[:need]
	var l []api.Share
	for k := range of {
		s := api.Share{N: k}
		for row := range slices.Chunk(whole, need) {
			s.Values = append(s.Values, through(places, row, k))
		}
		l = append(l, s)
	}
	return l
}

// made: the content that these shares make; nil, if something else than 0 is
// behind it.
func made(p api.Plan, l []api.Share) []int {
	var whole []int
	for r := range l[0].Values {
		var x, y []int
		for _, s := range l {
			x, y = append(x, s.N), append(y, s.Values[r])
		}
		for k := range p.Need {
			whole = append(whole, through(x, y, k))
		}
	}
	if slices.ContainsFunc(whole[p.Size:], func(v int) bool { return v != 0 }) {
		return nil
	}
	return whole[:p.Size]
}

// firsts: the shares that are there of this version, of like N the first one's.
func firsts(m api.Mesh, version int) []api.Share {
	var l []api.Share
	for n := range m.P {
		s := held(m, n, version)
		if s != nil && !slices.ContainsFunc(l, func(r api.Share) bool { return r.N == s.N }) {
			l = append(l, *s)
		}
	}
	return l
}

// voted: the content that most of the shares that are there are of; of like
// ones the one whose shares come first.
func voted(m api.Mesh, version int) ([]int, api.Errno) {
	p, l := m.B.V[version].P, firsts(m, version)
	if len(l) < p.Need {
		return nil, api.ErrShort
	}
	var best []int
	most := 0
	// The first place has the highest bit, so that falling choices are rising places.
	for choice := 1<<len(l) - 1; choice > 0; choice-- {
		if bits.OnesCount(uint(choice)) != p.Need {
			continue
		}
		var some []api.Share
		for i, s := range l {
			if choice>>(len(l)-1-i)&1 > 0 {
				some = append(some, s)
			}
		}
		if data := made(p, some); data != nil {
			if many := len(l) - len(unlike(data, p, l)); many > most {
				best, most = data, many
			}
		}
	}
	if best == nil {
		return nil, api.ErrTorn
	}
	return best, api.OK
}

// unlike: the places of l at which there is something else than data's share.
func unlike(data []int, p api.Plan, l []api.Share) []int {
	all := sharesOf(data, p.Need, p.Of)
	var places []int
	for i, s := range l {
		if !slices.Equal(s.Values, all[s.N].Values) {
			places = append(places, i)
		}
	}
	return places
}

// blamed: the peers that are there and have something else than data's share.
func blamed(m api.Mesh, version int, data []int) []int {
	var who []int
	for n := range m.P {
		if s := held(m, n, version); s != nil && unlike(data, m.B.V[version].P, []api.Share{*s}) != nil {
			who = append(who, n)
		}
	}
	return who
}

// lacking: how many of the shares of this version nobody has who is there.
func lacking(m api.Mesh, version int) int { return m.B.V[version].P.Of - len(firsts(m, version)) }

// content of many numbers from a rule, another one for each first.
func content(many, first int) []int {
	l := make([]int, many)
	for k := range l {
		l[k] = (first + 3*k + k*k) % api.Prime
	}
	return l
}

// rule gives number after number that look as if they had no order, the same
// ones in each run.
func rule() func(below int) int {
	state := uint32(88675123)
	return func(below int) int {
		state ^= state << 13
		state ^= state >> 17
		state ^= state << 5
		return int(state>>8) % below
	}
}

// copied: a deep copy of m.
func copied(m api.Mesh) api.Mesh {
	m.B.V = slices.Clone(m.B.V)
	for k, v := range m.B.V {
		m.B.V[k].Parents = slices.Clone(v.Parents)
	}
	m.P = slices.Clone(m.P)
	for n, p := range m.P {
		m.P[n].K = slices.Clone(p.K)
		for i, k := range p.K {
			m.P[n].K[i].S.Values = slices.Clone(k.S.Values)
		}
	}
	return m
}

// empty: a mesh of so many peers that are there, with all room.
func empty(many int) api.Mesh {
	return api.Mesh{P: slices.Repeat([]api.Peer{{There: true, Room: api.MaxRoom}}, many)}
}

// with: m with a version behind all, that nobody keeps.
func with(m api.Mesh, p api.Plan) api.Mesh {
	m = copied(m)
	m.B.V = append(m.B.V, api.Version{P: p})
	return m
}

// spread: m with data as a version behind all; share 0 is kept by peer first,
// and so on, around them.
func spread(m api.Mesh, data []int, need, of, first int) api.Mesh {
	m = with(m, api.Plan{Need: need, Of: of, Size: len(data)})
	for _, s := range sharesOf(data, need, of) {
		give(&m, (first+s.N)%len(m.P), len(m.B.V)-1, s)
	}
	return m
}

// give: peer n keeps s of this version, too.
func give(m *api.Mesh, n, version int, s api.Share) {
	at := 0
	for at < len(m.P[n].K) && m.P[n].K[at].Version < version {
		at++
	}
	k := api.Kept{Version: version, S: api.Share{N: s.N, Values: slices.Clone(s.Values)}}
	m.P[n].K = slices.Insert(m.P[n].K, at, k)
}

// lose: peer n keeps nothing of this version.
func lose(m *api.Mesh, n, version int) {
	m.P[n].K = slices.DeleteFunc(m.P[n].K, func(k api.Kept) bool { return k.Version == version })
}

// held: what peer n has of this version; nil, if it isn't there, or has nothing.
func held(m api.Mesh, n, version int) *api.Share {
	for i, k := range m.P[n].K {
		if m.P[n].There && k.Version == version {
			return &m.P[n].K[i].S
		}
	}
	return nil
}

// bend: what peer n has of this version has another value, not always the first.
func bend(m *api.Mesh, n, version, amount int) {
	l := held(*m, n, version).Values
	l[amount%len(l)] = (l[amount%len(l)] + amount) % api.Prime
}

// leave: these peers aren't there.
func leave(m *api.Mesh, who ...int) {
	for _, n := range who {
		m.P[n].There = false
	}
}

// stay: only those peers are there of which choice has the bit.
func stay(m api.Mesh, choice int) api.Mesh {
	m = copied(m)
	for n := range m.P {
		m.P[n].There = choice>>n&1 > 0
	}
	return m
}

// wantBlamed: just these are blamed.
func wantBlamed(t *testing.T, what string, m api.Mesh, version int, want ...int) {
	t.Helper()
	if who, e := Blamed(m, version); e != api.OK || !slices.Equal(who, want) {
		t.Fatalf("%s: Blamed(%v, %d): %v, error %d, want %v", what, m, version, who, e, want)
	}
}

// wantUnblamed: Blamed has this error, and answers nobody beside it.
func wantUnblamed(t *testing.T, what string, m api.Mesh, version int, want api.Errno) {
	t.Helper()
	if who, e := Blamed(m, version); e != want || who != nil {
		t.Fatalf("%s: Blamed(%v, %d): %v, error %d, want error %d", what, m, version, who, e, want)
	}
}

// wantLacking: so many lack.
func wantLacking(t *testing.T, what string, m api.Mesh, version, want int) {
	t.Helper()
	if many, e := Lacking(m, version); e != api.OK || many != want {
		t.Fatalf("%s: Lacking(%v, %d): %d, error %d, want %d", what, m, version, many, e, want)
	}
}

// wantNeither: both have this error, and answer nothing beside it.
func wantNeither(t *testing.T, what string, m api.Mesh, version int, want api.Errno) {
	t.Helper()
	wantUnblamed(t, what, m, version, want)
	if many, e := Lacking(m, version); e != want || many != 0 {
		t.Fatalf("%s: Lacking(%v, %d): %d, error %d, want error %d", what, m, version, many, e, want)
	}
}

// compare: are both as is worked out beside the program? It answers Blamed's
// error.
func compare(t *testing.T, what string, m api.Mesh, version int) api.Errno {
	t.Helper()
	wantLacking(t, what, m, version, lacking(m, version))
	data, e := voted(m, version)
	if e != api.OK {
		wantUnblamed(t, what, m, version, e)
		return e
	}
	wantBlamed(t, what, m, version, blamed(m, version, data)...)
	return api.OK
}

// wantMany: what was made by a rule came out often enough each way.
func wantMany(t *testing.T, seen, few map[api.Errno]int) {
	t.Helper()
	for e, many := range few {
		if seen[e] < many {
			t.Errorf("error %d came %d times, want %d or more", e, seen[e], many)
		}
	}
}
