package mesh

import (
	"math"
	"slices"
	"testing"

	"cellarman/api"
)

// TestSaveEachPlan: every Need of every Of, without parents and with some.
func TestSaveEachPlan(t *testing.T) {
	base := spare(t)
	for _, parents := range [][]int{nil, {}, {0}, {2}, {0, 1, 2}} {
		eachPlan(func(p api.Plan) {
			data := content(p.Size, p.Need*p.Of)
			want := mustSave(t, base, data, parents, p.Need, p.Of)
			wantSave(t, "a further one", base, data, parents, p.Need, p.Of, want)
			wantRestore(t, "a further one", want, 3, data)
			first := mustSave(t, empty(1, 1, 1, 1, 1, 1, 1, 1), data, nil, p.Need, p.Of)
			wantSave(t, "the first one", empty(1, 1, 1, 1, 1, 1, 1, 1), data, nil, p.Need, p.Of, first)
		})
	}
}

// TestWhoKeeps: those that are there and have the most room left, of like ones
// by number; share 0 the first one.
func TestWhoKeeps(t *testing.T) {
	type turn struct {
		what string
		m    api.Mesh
		who  []int
	}
	away := empty(4, 4, 9, 4)
	leave(&away, 2)
	busy := mustSave(t, empty(4, 3, 3, 1), []int{1}, nil, 1, 1)
	for _, c := range []turn{
		{"like room", empty(2, 2, 2), []int{0, 1, 2}},
		{"room that rises", empty(1, 2, 3), []int{2, 1, 0}},
		{"room that falls", empty(3, 2, 1), []int{0, 1, 2}},
		{"most room", empty(0, api.MaxRoom, 19, api.MaxRoom), []int{1, 3, 2}},
		{"one is away", away, []int{0, 1, 3}},
		{"room that is left, not room", busy, []int{0, 1, 2, 3}},
		{"nobody has room", empty(0, 0, 0), nil},
		{"nobody is there", stay(empty(1, 2), 0), nil},
		{"there are no peers", api.Mesh{}, nil},
	} {
		version := len(c.m.B.V)
		for of := 1; of <= len(c.who); of++ {
			want := with(c.m, api.Plan{Need: 1, Of: of, Size: 2})
			for n := range of {
				give(&want, c.who[n], version, api.Share{N: n, Values: []int{8, 30}})
			}
			wantSave(t, c.what, c.m, []int{8, 30}, nil, 1, of, want)
		}
		for of := len(c.who) + 1; of <= api.MaxShares; of++ {
			wantUnsaved(t, c.what+", too few", c.m, []int{8, 30}, nil, 1, of, api.ErrShort)
		}
	}
}

// TestMostVersions: no more than api.MaxVersions, whatever room there is.
func TestMostVersions(t *testing.T) {
	m := empty(slices.Repeat([]int{api.MaxRoom}, api.MaxPeers)...)
	for v := range api.MaxVersions {
		var parents []int
		for k := v % 3; k < v; k += 2 {
			parents = append(parents, k)
		}
		data := content(1+2*v, v)
		want := mustSave(t, m, data, parents, 1+v%4, 4+v%5)
		wantSave(t, "one more", m, data, parents, 1+v%4, 4+v%5, want)
		m = want
	}
	for v := range api.MaxVersions {
		wantRestore(t, "all of them", m, v, content(1+2*v, v))
	}
	wantUnsaved(t, "one too many", m, []int{1}, nil, 1, 1, api.ErrMany)
	leave(&m, 0, 1, 2, 3, 4, 5, 6, 7)
	wantUnsaved(t, "one too many, and nobody is there", m, []int{1}, nil, 1, 1, api.ErrMany)
	wantUnsaved(t, "one too many, of wrong parents", m, []int{1}, []int{-1}, 1, 1, api.ErrMany)
	wantUnsaved(t, "one too many, of the last one", m, []int{1}, []int{12}, 1, 1, api.ErrMany)
}

// TestSaveUntilFull: peers of less and less room.
func TestSaveUntilFull(t *testing.T) {
	m := empty(1, 2, 3, 0)
	for _, of := range []int{3, 2, 1} {
		wantUnsaved(t, "one share too many", m, []int{1, 2, 3}, nil, 1, of+1, api.ErrShort)
		want := mustSave(t, m, []int{1, 2, 3}, nil, 1, of)
		wantSave(t, "as many as can", m, []int{1, 2, 3}, nil, 1, of, want)
		m = want
	}
	wantUnsaved(t, "no room is left", m, []int{1, 2, 3}, nil, 1, 1, api.ErrShort)
	for v := range 3 {
		wantRestore(t, "what was saved stays", m, v, []int{1, 2, 3})
	}
}

// badContent: what chapter 3 refuses; all of it for one error.
type badContent struct {
	data     []int
	need, of int
}

func badContents() []badContent {
	return []badContent{
		{[]int{1}, 0, 1}, {[]int{1}, -1, 1}, {[]int{1}, math.MinInt, math.MinInt}, {[]int{1}, api.MaxNeed + 1, api.MaxShares},
		{[]int{1}, 2, 1}, {[]int{1}, 1, 0}, {[]int{1}, 1, api.MaxShares + 1}, {[]int{1}, 1, math.MaxInt}, {[]int{1}, math.MaxInt, math.MaxInt},
		{nil, 1, 1}, {[]int{}, 1, 1}, {content(api.MaxData+1, 1), 1, 1}, {make([]int, 100000), 2, 3},
		{[]int{-1}, 1, 1}, {[]int{api.Prime}, 1, 1}, {[]int{0, 1, math.MaxInt}, 2, 3}, {[]int{math.MinInt, 1}, 2, 3},
		{append(content(api.MaxData-1, 1), 31), api.MaxNeed, api.MaxShares},
	}
}

// badParents of a version 3, and their errors.
type badParents struct {
	l []int
	e api.Errno
}

func allBadParents() []badParents {
	return []badParents{
		{[]int{3}, api.ErrWho}, {[]int{-1}, api.ErrWho}, {[]int{math.MaxInt}, api.ErrWho}, {[]int{0, 1, 2, 3}, api.ErrWho},
		{[]int{0, 0}, api.ErrTwice}, {[]int{1, 0}, api.ErrTwice}, {[]int{0, 2, 2, 3}, api.ErrTwice}, {[]int{0, 3, 3}, api.ErrWho},
		{make([]int, 100000), api.ErrTwice},
	}
}

// TestSaveErrors: of several the content's is the first, then the version's,
// then that of those who would keep it.
func TestSaveErrors(t *testing.T) {
	m := spare(t)
	full := m
	for len(full.B.V) < api.MaxVersions {
		full = with(full, api.Plan{Need: 1, Of: 1, Size: 1})
	}
	meshes := []api.Mesh{m, stay(m, 0), full, stay(full, 0)}
	for _, c := range badContents() {
		for _, m := range meshes {
			wantUnsaved(t, "wrong content", m, c.data, nil, c.need, c.of, api.ErrRange)
			wantUnsaved(t, "wrong content, parents", m, c.data, []int{0, 2}, c.need, c.of, api.ErrRange)
			for _, p := range allBadParents() {
				wantUnsaved(t, "wrong content, wrong parents", m, c.data, p.l, c.need, c.of, api.ErrRange)
			}
		}
		wantUnsaved(t, "wrong content, nothing at all", api.Mesh{}, c.data, nil, c.need, c.of, api.ErrRange)
	}
	for _, p := range allBadParents() {
		wantUnsaved(t, "wrong parents", m, []int{1}, p.l, 1, 8, p.e)
		wantUnsaved(t, "wrong parents, nobody is there", stay(m, 0), []int{1}, p.l, 1, 8, p.e)
		wantUnsaved(t, "wrong parents, the book is full", full, []int{1}, p.l, 1, 1, api.ErrMany)
	}
	wantUnsaved(t, "the book is full", full, []int{1}, []int{2}, 1, 1, api.ErrMany)
	wantUnsaved(t, "the book is full, nobody is there", stay(full, 0), []int{1}, nil, 1, 1, api.ErrMany)
	wantUnsaved(t, "nobody is there", stay(m, 0), []int{1}, []int{2}, 1, 1, api.ErrShort)
}
