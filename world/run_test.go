package world_test

import (
	"slices"
	"testing"

	"cellarman/api"
	"cellarman/mesh"
	"cellarman/world"
)

// turn of a script: what happens, and what it answers.
type turn struct {
	x api.Happening
	e api.Errno
}

// script: some turns, of which many have errors, in a mesh of four peers with
// room for two shares each, and what is made of it.
func script(t *testing.T) (m api.Mesh, l []api.Happening, errors []api.Errno, want api.Mesh) {
	t.Helper()
	save := func(parents ...int) api.Happening {
		return api.Happening{Kind: api.HSave, Data: []int{5, 7, 9}, Parents: parents, Need: 2, Of: 3}
	}
	of := func(kind, n int) api.Happening { return api.Happening{Kind: kind, N: n} }
	for _, c := range []turn{
		{save(0), api.ErrWho}, {save(), api.OK}, {of(api.HLeave, 1), api.OK}, {of(api.HLeave, 1), api.ErrLate},
		{of(api.HRepair, 1), api.ErrWho}, {of(api.HRepair, 0), api.OK}, {of(api.HBend, 3), api.OK}, {save(0), api.OK},
		{save(), api.ErrShort}, {of(0, 0), api.ErrForm}, {of(api.HForget, 0), api.ErrLate}, {of(api.HLose, 4), api.ErrWho},
		{of(api.HLose, 0), api.OK}, {of(api.HCome, 1), api.OK}, {of(api.HCome, 1), api.ErrLate}, {of(api.HBend, 0), api.ErrWho},
		{of(api.HLeave, -1), api.ErrWho}, {api.Happening{Kind: api.HBend, N: 2, M: 2}, api.ErrWho},
		{api.Happening{Kind: api.HBend, N: 2, M: 1}, api.OK}, {of(api.HLeave, 3), api.OK}, {of(api.HForget, 1), api.OK},
		{of(api.HRepair, 1), api.ErrShort}, {of(api.HForget, 2), api.ErrWho},
	} {
		l, errors = append(l, c.x), append(errors, c.e)
	}
	p := api.Plan{Need: 2, Of: 3, Size: 3}
	want.B.V = []api.Version{{P: p}, {Parents: []int{0}, P: p}}
	want.P = []api.Peer{
		{There: true, Room: 2},
		{There: true, Room: 2, K: []api.Kept{{S: api.Share{N: 1, Values: []int{7, 0}}}}},
		{There: true, Room: 2, K: []api.Kept{{S: api.Share{N: 2, Values: []int{9, 22}}}}},
		{Room: 2, K: []api.Kept{{S: api.Share{N: 1, Values: []int{8, 0}}}, {Version: 1, S: api.Share{N: 2, Values: []int{9, 22}}}}},
	}
	return empty(t, 4, 2), l, errors, want
}

// TestRunWrittenOut: in one run and in two.
func TestRunWrittenOut(t *testing.T) {
	m, l, errors, want := script(t)
	wantRun(t, "in one run", m, l, want, errors...)
	for cut := range len(l) + 1 {
		half, said, e := world.Run(m, l[:cut])
		if e != api.OK || !slices.Equal(said, errors[:cut]) {
			t.Fatalf("the first %d: %v, %v, error %d, want %v", cut, half, said, e, errors[:cut])
		}
		wantRun(t, "in two runs", half, l[cut:], want, errors[cut:]...)
	}
	at := 0
	fine := slices.DeleteFunc(l, func(api.Happening) bool { at++; return errors[at-1] != api.OK })
	wantRun(t, "without what has errors", m, fine, want, make([]api.Errno, len(fine))...)
}

// TestRunNothing: a script of none, and ones of nothing but errors.
func TestRunNothing(t *testing.T) {
	for _, m := range append(meshesToSaveIn(t), small(), stay(family(t), 0x33)) {
		wantRun(t, "no script", m, nil, m)
		wantRun(t, "an empty script", m, []api.Happening{}, m)
		for _, many := range []int{1, 2, api.MaxScript} {
			wantRun(t, "no such kinds", m, make([]api.Happening, many), m, slices.Repeat([]api.Errno{api.ErrForm}, many)...)
		}
		l := []api.Happening{{Kind: api.HLose, N: 8}, {Kind: api.HSave, Need: 1, Of: 1}, {Kind: 8}, {Kind: api.HForget, N: 12}}
		wantRun(t, "errors alone", m, l, m, api.ErrWho, api.ErrRange, api.ErrForm, api.ErrWho)
	}
}

// TestRunMost: api.MaxScript, and one more.
func TestRunMost(t *testing.T) {
	bend := slices.Repeat([]api.Happening{{Kind: api.HBend, N: 2}}, api.MaxScript)
	m, want := small(), small()
	want.P[2].K[0].S.Values[0] = (9 + api.MaxScript) % api.Prime
	wantRun(t, "most bent", m, bend, want, make([]api.Errno, api.MaxScript)...)
	last := slices.Clone(bend)
	last[api.MaxScript-1].N = 4
	want.P[2].K[0].S.Values[0] = (9 + api.MaxScript - 1) % api.Prime
	wantRun(t, "the last one has an error", m, last, want, append(make([]api.Errno, api.MaxScript-1), api.ErrWho)...)
	for _, m := range append(meshesToSaveIn(t), small()) {
		wantNoRun(t, "one more", m, append(slices.Clone(bend), bend[0]), api.ErrMany)
		for _, many := range []int{api.MaxScript + 1, 2 * api.MaxScript, 100000} {
			wantNoRun(t, "too many, and errors alone", m, make([]api.Happening, many), api.ErrMany)
		}
	}
}

// TestRunUntilTheBookIsFull: what doesn't fit is no version.
func TestRunUntilTheBookIsFull(t *testing.T) {
	m := empty(t, api.MaxPeers, api.MaxRoom)
	want := m
	var l []api.Happening
	var errors []api.Errno
	for v := range api.MaxVersions + 3 {
		x := api.Happening{Kind: api.HSave, Data: content(1+v, v), Need: 1 + v%4, Of: 4 + v%5}
		l, errors = append(l, x), append(errors, api.ErrMany)
		if v < api.MaxVersions {
			want, errors[v] = saved(t, want, x.Data, nil, x.Need, x.Of), api.OK
		}
	}
	wantRun(t, "too many versions", m, l, want, errors...)
}

// TestRunRestores: what leaves, is lost, is bent a little and is repaired, is
// restored as it was saved.
func TestRunRestores(t *testing.T) {
	data := content(7, 11)
	l := []api.Happening{{Kind: api.HSave, Data: data, Parents: []int{3, 5}, Need: 2, Of: 6}}
	for n := range api.MaxPeers {
		l = append(l, api.Happening{Kind: api.HLeave, N: n}, api.Happening{Kind: api.HLose, N: (n + 1) % 8})
		l = append(l, api.Happening{Kind: api.HRepair, N: 7}, api.Happening{Kind: api.HCome, N: n}, api.Happening{Kind: api.HRepair, N: 7})
	}
	made, said, e := world.Run(family(t), l)
	if e != api.OK || !slices.Equal(said, make([]api.Errno, len(l))) {
		t.Fatalf("%v: errors %v, error %d", l, said, e)
	}
	got, others, e := mesh.Restore(made, 7)
	if e != api.OK || !slices.Equal(got, data) || len(others) > 0 {
		t.Errorf("restored %v, others %v, error %d, want %v", got, others, e, data)
	}
}

// TestRunMuddles: scripts of anything, in one run and in two, against what is
// worked out one by one.
func TestRunMuddles(t *testing.T) {
	some := rule()
	type way struct {
		kind int
		e    api.Errno
	}
	seen := map[way]int{}
	for range 4000 {
		m := muddle(some)
		var l []api.Happening
		var errors []api.Errno
		want := m
		for range some(25) {
			x := anything(some)
			made, e := after(want, x)
			if e == api.OK {
				want = made
			}
			l, errors = append(l, x), append(errors, e)
			seen[way{x.Kind, e}]++
		}
		wantRun(t, "a muddle", m, l, want, errors...)
		cut := some(len(l) + 1)
		half, said, e := world.Run(m, l[:cut])
		if e != api.OK || !slices.Equal(said, errors[:cut]) {
			t.Fatalf("Run(%v, %v): %v, %v, error %d, want %v", m, l[:cut], half, said, e, errors[:cut])
		}
		wantRun(t, "the rest of a muddle", half, l[cut:], want, errors[cut:]...)
	}
	for _, w := range []way{
		{api.HSave, api.OK}, {api.HSave, api.ErrRange}, {api.HSave, api.ErrWho}, {api.HSave, api.ErrShort},
		{api.HRepair, api.OK}, {api.HRepair, api.ErrWho}, {api.HRepair, api.ErrShort}, {api.HRepair, api.ErrTorn},
		{api.HForget, api.OK}, {api.HForget, api.ErrWho}, {api.HForget, api.ErrLate}, {api.HLose, api.OK}, {api.HLose, api.ErrWho},
		{api.HLeave, api.OK}, {api.HLeave, api.ErrWho}, {api.HLeave, api.ErrLate}, {api.HBend, api.OK}, {api.HBend, api.ErrWho},
		{api.HCome, api.OK}, {api.HCome, api.ErrWho}, {api.HCome, api.ErrLate}, {0, api.ErrForm},
	} {
		if seen[w] < 10 {
			t.Errorf("kind %d had error %d but %d times", w.kind, w.e, seen[w])
		}
	}
}

// TestDoMuddles: each Kind at each peer, version and place of a muddle.
func TestDoMuddles(t *testing.T) {
	some := rule()
	for range 400 {
		m := muddle(some)
		for _, kind := range kinds[1:] {
			for n := -1; n <= api.MaxPeers; n++ {
				compare(t, "a muddle", m, api.Happening{Kind: kind, N: n})
			}
		}
		for n, p := range m.P {
			for at := range len(p.K) + 1 {
				compare(t, "a muddle", m, api.Happening{Kind: api.HBend, N: n, M: at})
			}
		}
	}
}
