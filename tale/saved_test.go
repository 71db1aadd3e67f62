package tale_test

import (
	"slices"
	"testing"

	"cellarman/api"
	"cellarman/mesh"
	"cellarman/tale"
)

// turn of a script: what happens, and whether it has an error.
type turn struct {
	x  api.Happening
	ok bool
}

// ordinary: turns in a mesh of four peers with room for two shares each, of
// which many have errors, saves among them.
func ordinary() []turn {
	return []turn{
		{save([]int{1}, 1, 2, 0), false}, // it has no parent yet
		{save([]int{5, 7, 9}, 2, 3), true},
		{to(api.HLeave, 1), true},
		{to(api.HLeave, 1), false},
		{save([]int{2, 2}, 1, 4), false}, // three are there
		{save([]int{4, 31}, 1, 1), false},
		{save([]int{30, 0}, 1, 1, 0), true},
		{save([]int{5, 7, 9}, 2, 2, 1), true},
		{save([]int{6}, 1, 1, 1, 0), false},
		{to(api.HRepair, 0), true},
		{to(api.HCome, 1), true},
		{save([]int{3}, 1, 3), false},
		{to(api.HLose, 0), true},
		{api.Happening{Kind: api.HBend, N: 2}, true},
		{to(0, 0), false},
		{to(api.HForget, 0), false},
		{to(api.HForget, 2), true},
		{save(nil, 1, 1), false},
		{save([]int{8, 1, 2, 3}, 3, 4, 1, 2), false}, // peer 3 has no room
		{save([]int{8, 1, 2, 3}, 3, 3, 1, 2), true},
	}
}

// TestSavedWrittenOut: each part of the script, too.
func TestSavedWrittenOut(t *testing.T) {
	var l, fine []api.Happening
	var want [][]int
	m := begun(t, like(4, 2))
	wantSaved(t, "nothing yet", like(4, 2), nil)
	for i, c := range ordinary() {
		made, _, e := step(m, c.x, nil)
		if (e == api.OK) != c.ok {
			t.Fatalf("turn %d: Do(%v, %v): error %d", i, m, c.x, e)
		}
		m, l = made, append(l, c.x)
		if c.ok {
			fine = append(fine, c.x)
		}
		if c.ok && c.x.Kind == api.HSave {
			want = append(want, c.x.Data)
		}
		wantSaved(t, "a part of the script", like(4, 2), l, want...)
		wantSaved(t, "without what has errors", like(4, 2), fine, want...)
	}
	wantSaved(t, "all of it", like(4, 2), l, []int{5, 7, 9}, []int{30, 0}, []int{5, 7, 9}, []int{8, 1, 2, 3})
}

// TestSavedAheadAndBehind: a save that has an error, ahead of and behind ones
// that have none.
func TestSavedAheadAndBehind(t *testing.T) {
	good, other := save([]int{3, 4}, 1, 2), save([]int{5}, 2, 2)
	for _, bad := range []api.Happening{
		save(nil, 1, 1), save(content(api.MaxData+1, 0), 1, 1), save([]int{-1}, 1, 1), save([]int{1, api.Prime}, 1, 1),
		save([]int{1}, 0, 1), save([]int{1}, 2, 1), save([]int{1}, 5, 6), save([]int{1}, 1, 9), save([]int{1}, 1, 4),
		save([]int{1}, 1, 1, -1), save([]int{1}, 1, 1, 2), save([]int{1}, 1, 1, 0, 0), save([]int{1}, 1, 1, 1, 0),
	} {
		room := like(3, 4)
		wantSaved(t, "alone", room, []api.Happening{bad})
		wantSaved(t, "ahead", room, []api.Happening{bad, good}, []int{3, 4})
		wantSaved(t, "behind", room, []api.Happening{good, bad}, []int{3, 4})
		wantSaved(t, "between", room, []api.Happening{good, bad, other}, []int{3, 4}, []int{5})
		wantSaved(t, "all around", room, []api.Happening{bad, good, bad, bad, other, bad}, []int{3, 4}, []int{5})
	}
}

// TestSavedOnWhatIsMade: whether a save has an error hangs on all that happened
// ahead of it.
func TestSavedOnWhatIsMade(t *testing.T) {
	a, b, c := save([]int{1, 2}, 2, 2), save([]int{3}, 1, 2, 0), save([]int{4}, 1, 1, 1)
	for _, x := range []struct {
		what string
		l    []api.Happening
		want [][]int
	}{
		{"no room is left", []api.Happening{a, save([]int{3}, 1, 1)}, [][]int{{1, 2}}},
		{"its parent isn't saved", []api.Happening{b, c}, nil},
		{"its parent is saved later", []api.Happening{b, a, c}, [][]int{{1, 2}}},
		{"some is lost", []api.Happening{a, to(api.HLose, 1), to(api.HLose, 0), b}, [][]int{{1, 2}, {3}}},
		{"too little is lost", []api.Happening{a, to(api.HLose, 1), b}, [][]int{{1, 2}}},
		{"it is forgotten", []api.Happening{a, to(api.HForget, 0), b}, [][]int{{1, 2}, {3}}},
		{"somebody is away", []api.Happening{to(api.HLeave, 1), a, b}, nil},
		{"somebody was away", []api.Happening{to(api.HLeave, 1), b, to(api.HCome, 1), a, b}, [][]int{{1, 2}}},
		{"what is forgotten is a parent", []api.Happening{a, to(api.HForget, 0), b, to(api.HForget, 1), c}, [][]int{{1, 2}, {3}, {4}}},
	} {
		wantSaved(t, x.what, []int{1, 1}, x.l, x.want...)
	}
}

// TestSavedOfOtherKinds: what else has Data saves nothing.
func TestSavedOfOtherKinds(t *testing.T) {
	first := save([]int{5, 7, 9}, 2, 3)
	for _, kind := range append([]int{0, -1, 8}, kinds[1:]...) {
		x := save([]int{6, 6}, 1, 1)
		x.Kind = kind
		wantSaved(t, "alone", like(4, 3), []api.Happening{x})
		wantSaved(t, "behind a save", like(4, 3), []api.Happening{first, x, x}, first.Data)
		wantSaved(t, "between saves", like(4, 3), []api.Happening{first, x, first}, first.Data, first.Data)
	}
	for _, odd := range outside(4) {
		x := save([]int{6, 6}, 1, 1)
		x.N, x.M = odd, odd
		wantSaved(t, "a save has no N, M", like(4, 3), []api.Happening{x}, x.Data)
	}
}

// TestSavedRoom: none at all, none for anybody, for one, api.MaxPeers peers.
func TestSavedRoom(t *testing.T) {
	one, all := save([]int{1, 2, 3}, 1, 1), save(content(api.MaxData, 3), api.MaxNeed, api.MaxShares)
	for _, room := range [][]int{nil, {}, {0}, like(api.MaxPeers, 0)} {
		wantSaved(t, "no room", room, nil)
		wantSaved(t, "no room", room, []api.Happening{one, all, one, to(api.HLose, 0), one})
	}
	wantSaved(t, "room for one", []int{0, 0, 1}, []api.Happening{one, one}, one.Data)
	wantSaved(t, "room for one at each", like(api.MaxPeers, 1), []api.Happening{all, one}, all.Data)
	wantSaved(t, "one too few", like(api.MaxPeers-1, 1), []api.Happening{all, one}, one.Data)
	wantSaved(t, "most room", like(api.MaxPeers, api.MaxRoom), []api.Happening{all, one, all}, all.Data, one.Data, all.Data)
	wantSaved(t, "one peer with most room", []int{api.MaxRoom}, []api.Happening{all, one, one}, one.Data, one.Data)
}

// TestSavedMostScript: api.MaxScript, and no more of it than is there.
func TestSavedMostScript(t *testing.T) {
	room := like(3, 4)
	last := save([]int{9, 9}, 2, 3)
	for _, x := range []api.Happening{{}, to(api.HLose, 1), to(api.HLeave, 3)} {
		l := slices.Repeat([]api.Happening{x}, api.MaxScript)
		wantSaved(t, "no save", room, l)
		l[api.MaxScript-1] = last
		wantSaved(t, "a save at the end", room, l, last.Data)
		l[0] = save([]int{4}, 1, 1)
		wantSaved(t, "at both ends", room, l, []int{4}, last.Data)
	}
}

// TestSavedMostVersions: api.MaxVersions, and one more; what is forgotten still
// counts.
func TestSavedMostVersions(t *testing.T) {
	room := like(api.MaxPeers, api.MaxRoom)
	var l []api.Happening
	var want [][]int
	for v := range api.MaxVersions {
		x := save(content(1+2*v, v), 1+v%4, 4+v%5)
		l, want = append(l, x), append(want, x.Data)
		wantSaved(t, "not most yet", room, l, want...)
	}
	one := save([]int{1}, 1, 1)
	wantSaved(t, "one more", room, append(slices.Clone(l), one), want...)
	for v := range api.MaxVersions {
		l = append(l, to(api.HForget, v))
	}
	wantSaved(t, "one more, all forgotten", room, append(slices.Clone(l), one), want...)
	for n := range api.MaxPeers {
		l = append(l, to(api.HLose, n))
	}
	wantSaved(t, "one more, all lost", room, append(slices.Clone(l), one), want...)
	wantSaved(t, "nothing but saves", room, slices.Repeat([]api.Happening{one}, api.MaxScript), slices.Repeat([][]int{{1}}, api.MaxVersions)...)
}

// TestSavedMuddles: scripts of anything, against what is worked out step by
// step; what is bent is told as it was saved.
func TestSavedMuddles(t *testing.T) {
	some := rule()
	type way struct {
		kind int
		e    api.Errno
	}
	seen := map[way]int{}
	for range 1500 {
		room, l := anyRoom(some), script(some, some(api.MaxScript+1), false)
		var want [][]int
		m := begun(t, room)
		for _, x := range l {
			var e api.Errno
			m, want, e = step(m, x, want)
			seen[way{x.Kind, e}]++
		}
		wantSaved(t, "a muddle", room, l, want...)
		if len(want) != len(m.B.V) {
			t.Fatalf("%d are saved, %d are in the book", len(want), len(m.B.V))
		}
	}
	for _, w := range []way{
		{api.HSave, api.OK}, {api.HSave, api.ErrMany}, {api.HSave, api.ErrRange}, {api.HSave, api.ErrWho}, {api.HSave, api.ErrShort},
		{api.HRepair, api.OK}, {api.HForget, api.OK}, {api.HLose, api.OK}, {api.HLeave, api.OK}, {api.HCome, api.OK}, {api.HBend, api.OK},
		{api.HRepair, api.ErrShort}, {api.HForget, api.ErrLate}, {api.HLose, api.ErrWho}, {api.HCome, api.ErrLate}, {0, api.ErrForm},
	} {
		if seen[w] < 10 {
			t.Errorf("kind %d had error %d but %d times", w.kind, w.e, seen[w])
		}
	}
}

// TestSavedHasErrors: New's first, then that of too long a script.
func TestSavedHasErrors(t *testing.T) {
	one := save([]int{1}, 1, 1)
	long := slices.Repeat([]api.Happening{one}, api.MaxScript+1)
	for _, c := range []struct {
		room []int
		want api.Errno
	}{
		{like(api.MaxPeers+1, 1), api.ErrMany}, {like(1000, 1), api.ErrMany}, {like(api.MaxPeers+1, -1), api.ErrMany},
		{[]int{-1}, api.ErrRange}, {[]int{api.MaxRoom + 1}, api.ErrRange}, {[]int{1, 2, -3, 4}, api.ErrRange},
		{[]int{3, 3, 3, 3, 3, 3, 3, 100}, api.ErrRange}, {outside(20), api.ErrRange},
	} {
		if _, e := mesh.New(c.room); e != c.want {
			t.Fatalf("New(%v): error %d, want %d", c.room, e, c.want)
		}
		for _, l := range [][]api.Happening{nil, {}, {one}, {{}}, long[1:], long, make([]api.Happening, 10000)} {
			wantNotSaved(t, "New's error", c.room, l, c.want)
		}
	}
	for _, room := range [][]int{nil, {0}, {3, 3}, like(api.MaxPeers, api.MaxRoom)} {
		for _, l := range [][]api.Happening{long, make([]api.Happening, api.MaxScript+1), slices.Repeat(long, 20)} {
			wantNotSaved(t, "too long a script", room, l, api.ErrMany)
		}
		wantSaved(t, "just not too long", room, make([]api.Happening, api.MaxScript))
	}
	if got, e := tale.Saved(nil, nil); e != api.OK || len(got) > 0 {
		t.Errorf("Saved(nil, nil): %v, error %d", got, e)
	}
}
