package tale_test

import (
	"math"
	"slices"
	"testing"

	"cellarman/api"
	"cellarman/mesh"
	"cellarman/tale"
	"cellarman/world"
)

// What the tests hold the program against: what is saved and what is spare are
// worked out here by hand or step by step; package world answers for what
// happens.

var kinds = []int{api.HSave, api.HLeave, api.HCome, api.HLose, api.HBend, api.HRepair, api.HForget}

// outside of what has so many places.
func outside(many int) []int {
	return []int{math.MinInt, -many - 1, -2, -1, many, many + 1, 100, math.MaxInt}
}

// content of many numbers from a rule, another one for each first.
func content(many, first int) []int {
	l := make([]int, many)
	for k := range l {
		l[k] = (first + 5*k + k*k) % api.Prime
	}
	return l
}

// rule gives number after number that look as if they had no order, the same
// ones in each run.
func rule() func(below int) int {
	state := uint32(362436069)
	return func(below int) int {
		state ^= state << 13
		state ^= state >> 17
		state ^= state << 5
		return int(state>>8) % below
	}
}

// like: as many peers with this room each.
func like(many, room int) []int { return slices.Repeat([]int{room}, many) }

// save of data by need of of.
func save(data []int, need, of int, parents ...int) api.Happening {
	return api.Happening{Kind: api.HSave, Data: data, Parents: parents, Need: need, Of: of}
}

// to: what happens to peer or version n.
func to(kind, n int) api.Happening { return api.Happening{Kind: kind, N: n} }

// begun: a mesh as mesh.New makes it.
func begun(t *testing.T, room []int) api.Mesh {
	t.Helper()
	m, e := mesh.New(room)
	if e != api.OK {
		t.Fatalf("New(%v): error %d", room, e)
	}
	return m
}

// next: m behind all of these, none of which may have an error.
func next(t *testing.T, m api.Mesh, l ...api.Happening) api.Mesh {
	t.Helper()
	for _, x := range l {
		made, e := world.Do(m, x)
		if e != api.OK {
			t.Fatalf("Do(%v, %v): error %d", m, x, e)
		}
		m = made
	}
	return m
}

// step: m behind x, and what is saved behind it.
func step(m api.Mesh, x api.Happening, saved [][]int) (api.Mesh, [][]int, api.Errno) {
	made, e := world.Do(m, x)
	if e != api.OK {
		return m, saved, e
	}
	if x.Kind == api.HSave {
		saved = append(saved, slices.Clone(x.Data))
	}
	return made, saved, api.OK
}

// less: how many numbers of shares are kept by who is there, less Need; number
// by number.
func less(m api.Mesh, version int) int {
	many := 0
	for number := range api.MaxShares {
		if slices.ContainsFunc(m.P, func(p api.Peer) bool {
			return p.There && slices.ContainsFunc(p.K, func(k api.Kept) bool { return k.Version == version && k.S.N == number })
		}) {
			many++
		}
	}
	return many - m.B.V[version].P.Need
}

// alike: are these the same contents?
func alike(a, b [][]int) bool { return slices.EqualFunc(a, b, slices.Equal) }

// wantSaved: these contents are answered.
func wantSaved(t *testing.T, what string, room []int, l []api.Happening, want ...[]int) {
	t.Helper()
	if got, e := tale.Saved(room, l); e != api.OK || !alike(got, want) {
		t.Fatalf("%s: Saved(%v, %v): %v, error %d, want %v", what, room, l, got, e, want)
	}
}

// wantNotSaved: this error is answered, and nothing beside it.
func wantNotSaved(t *testing.T, what string, room []int, l []api.Happening, want api.Errno) {
	t.Helper()
	if got, e := tale.Saved(room, l); e != want || len(got) > 0 {
		t.Fatalf("%s: Saved(%v, %d happenings): %v, error %d, want error %d", what, room, len(l), got, e, want)
	}
}

// wantSpare: this number is answered.
func wantSpare(t *testing.T, what string, m api.Mesh, version, want int) {
	t.Helper()
	if got, e := tale.Spare(m, version); e != api.OK || got != want {
		t.Fatalf("%s: Spare(%v, %d): %d, error %d, want %d", what, m, version, got, e, want)
	}
}

// wantNoSpare: this error is answered, and 0 beside it.
func wantNoSpare(t *testing.T, what string, m api.Mesh, version int, want api.Errno) {
	t.Helper()
	if got, e := tale.Spare(m, version); e != want || got != 0 {
		t.Fatalf("%s: Spare(%v, %d): %d, error %d, want error %d", what, m, version, got, e, want)
	}
}

// anything that may happen, or may not.
func anything(some func(below int) int) api.Happening {
	x := api.Happening{Kind: 1 + some(7), N: some(8), M: some(3), Data: content(1+some(9), some(31)), Need: 1 + some(3)}
	if some(3) == 0 {
		x.Kind = api.HSave
	}
	x.Of = x.Need + some(4)
	if some(2) == 0 {
		x.Parents = []int{some(4)}
	}
	switch some(20) {
	case 0:
		x.Kind = []int{math.MinInt, -1, 0, 8, math.MaxInt}[some(5)]
	case 1:
		x.N = outside(8)[some(8)]
	case 2:
		x.Data[some(len(x.Data))] = []int{-1, api.Prime}[some(2)]
	case 3:
		x.Need, x.Of = some(6), some(10)
	case 4:
		x.Data = content([]int{0, api.MaxData, api.MaxData + 1}[some(3)], some(31))
	}
	return x
}

// anyRoom of some peers.
func anyRoom(some func(below int) int) []int {
	room := make([]int, some(api.MaxPeers+1))
	most := 1 + some(api.MaxRoom+1)
	for n := range room {
		room[n] = some(most)
	}
	return room
}

// script of many things, what is bent left out where unbent.
func script(some func(below int) int, many int, unbent bool) []api.Happening {
	var l []api.Happening
	for len(l) < many {
		if x := anything(some); x.Kind != api.HBend || !unbent {
			l = append(l, x)
		}
	}
	return l
}
