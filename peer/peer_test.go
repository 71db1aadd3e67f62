package peer

import (
	"math"
	"reflect"
	"slices"
	"testing"

	"cellarman/api"
)

// plan that may be; another one for each k.
func plan(k int) api.Plan {
	return api.Plan{Need: 1 + k%api.MaxNeed, Of: api.MaxNeed + k%5, Size: 1 + 3*k%api.MaxData}
}

// long: how many values a share by p has, worked out beside the program.
func long(p api.Plan) int {
	many := 0
	for left := p.Size; left > 0; left -= p.Need {
		many++
	}
	return many
}

// line: a book of so many versions, each of the one ahead.
func line(many int) api.Book {
	var b api.Book
	for k := range many {
		v := api.Version{P: plan(k)}
		if k > 0 {
			v.Parents = []int{k - 1}
		}
		b.V = append(b.V, v)
	}
	return b
}

// family: 1 and 2 come from 0, 3 from both, 4 from 2; two of three shares, of
// two values each, are enough.
func family() api.Book {
	p := api.Plan{Need: 2, Of: 3, Size: 3}
	return api.Book{V: []api.Version{{P: p}, {Parents: []int{0}, P: p}, {Parents: []int{0}, P: p}, {Parents: []int{1, 2}, P: p}, {Parents: []int{2}, P: p}}}
}

// kept: a share of the family's version.
func kept(version int) api.Kept {
	return api.Kept{Version: version, S: api.Share{N: version % 3, Values: []int{version, 30}}}
}

// keeps: a peer that keeps these of the family's, and has so much room.
func keeps(room int, l ...api.Kept) api.Peer { return api.Peer{There: true, Room: room, K: l} }

// shareOf: a share by p, another one for each k.
func shareOf(p api.Plan, k int) api.Share {
	s := api.Share{N: k % p.Of}
	for i := range long(p) {
		s.Values = append(s.Values, (7*k+i)%api.Prime)
	}
	return s
}

// some: a peer that keeps of these versions of b; it has no more room.
func some(b api.Book, versions []int) api.Peer {
	p := api.Peer{There: len(versions)%2 == 0, Room: len(versions)}
	for _, v := range versions {
		p.K = append(p.K, api.Kept{Version: v, S: shareOf(b.V[v].P, v)})
	}
	return p
}

// subsets of the numbers from 0 to below many, each of them rising.
func subsets(many int) [][]int {
	l := [][]int{nil}
	for k := range many {
		for _, less := range slices.Clone(l) {
			l = append(l, append(slices.Clone(less), k))
		}
	}
	return l
}

// copied: a deep copy of p, made beside the program.
func copied(p api.Peer) api.Peer {
	p.K = slices.Clone(p.K)
	for i := range p.K {
		p.K[i].S.Values = slices.Clone(p.K[i].S.Values)
	}
	return p
}

// alike: are two peers alike, worked out beside the program?
func alike(a, b api.Peer) bool {
	if a.There != b.There || a.Room != b.Room || len(a.K) != len(b.K) {
		return false
	}
	for i, k := range a.K {
		l := b.K[i]
		if k.Version != l.Version || k.S.N != l.S.N || !slices.Equal(k.S.Values, l.S.Values) {
			return false
		}
	}
	return true
}

// nothing: is all of p zero?
func nothing(p api.Peer) bool { return !p.There && p.Room == 0 && p.K == nil }

// wantKeep: k is kept.
func wantKeep(t *testing.T, what string, b api.Book, p api.Peer, k api.Kept, want api.Peer) {
	t.Helper()
	if made, e := Keep(b, p, k); e != api.OK || !alike(made, want) {
		t.Fatalf("%s: Keep(%v, %v): %v, error %d, want %v", what, p, k, made, e, want)
	}
}

// wantNotKept: k isn't kept, and nothing is answered beside the error.
func wantNotKept(t *testing.T, what string, b api.Book, p api.Peer, k api.Kept, want api.Errno) {
	t.Helper()
	if made, e := Keep(b, p, k); e != want || !nothing(made) {
		t.Errorf("%s: Keep(%v, %v): %v, error %d, want error %d", what, p, k, made, e, want)
	}
}

// wantDrop: this is left.
func wantDrop(t *testing.T, what string, b api.Book, p api.Peer, version int, want api.Peer) {
	t.Helper()
	if made, e := Drop(b, p, version); e != api.OK || !alike(made, want) {
		t.Fatalf("%s: Drop(%v, %d): %v, error %d, want %v", what, p, version, made, e, want)
	}
}

// wantError: this error, and nothing beside it, of all calls that have Check's
// error.
func wantError(t *testing.T, what string, b api.Book, p api.Peer, want api.Errno) {
	t.Helper()
	if e := Check(b, p); e != want {
		t.Errorf("%s: Check(%v, %v): error %d, want %d", what, b, p, e, want)
	}
	for _, version := range []int{0, 1, -1, len(b.V), math.MaxInt} {
		// It is no share, either, by any plan.
		wantNotKept(t, what, b, p, api.Kept{Version: version}, want)
		if made, e := Drop(b, p, version); e != want || !nothing(made) {
			t.Errorf("%s: Drop(%v, %v, %d): %v, error %d, want error %d", what, b, p, version, made, e, want)
		}
	}
}

// wantPeer: Check has no error.
func wantPeer(t *testing.T, what string, b api.Book, p api.Peer) {
	t.Helper()
	if e := Check(b, p); e != api.OK {
		t.Errorf("%s: Check(%v, %v): error %d", what, b, p, e)
	}
}

func TestWrittenOut(t *testing.T) {
	b := family()
	empty := api.Peer{There: true, Room: 3}
	wantKeep(t, "the first one", b, empty, kept(2), keeps(3, kept(2)))
	wantKeep(t, "to an empty list", b, keeps(3, []api.Kept{}...), kept(2), keeps(3, kept(2)))
	wantKeep(t, "ahead of all", b, keeps(3, kept(2), kept(3)), kept(0), keeps(3, kept(0), kept(2), kept(3)))
	wantKeep(t, "between", b, keeps(3, kept(0), kept(4)), kept(2), keeps(3, kept(0), kept(2), kept(4)))
	wantKeep(t, "behind all", b, keeps(3, kept(0), kept(2)), kept(4), keeps(3, kept(0), kept(2), kept(4)))
	wantKeep(t, "one that isn't there", b, api.Peer{Room: 1}, kept(4), api.Peer{Room: 1, K: []api.Kept{kept(4)}})
	wantKeep(t, "most room", b, keeps(api.MaxRoom, kept(1)), kept(0), keeps(api.MaxRoom, kept(0), kept(1)))
	wantDrop(t, "the first one", b, keeps(3, kept(0), kept(2), kept(4)), 0, keeps(3, kept(2), kept(4)))
	wantDrop(t, "between", b, keeps(3, kept(0), kept(2), kept(4)), 2, keeps(3, kept(0), kept(4)))
	wantDrop(t, "the last one", b, keeps(3, kept(0), kept(2), kept(4)), 4, keeps(3, kept(0), kept(2)))
	wantDrop(t, "the only one", b, keeps(1, kept(3)), 3, keeps(1))
	wantDrop(t, "of one that isn't there", b, api.Peer{Room: 2, K: []api.Kept{kept(1), kept(3)}}, 1, api.Peer{Room: 2, K: []api.Kept{kept(3)}})
	for _, version := range []int{1, 3, 5, -1, math.MinInt, math.MaxInt} {
		p := keeps(3, kept(0), kept(2), kept(4))
		wantDrop(t, "what isn't kept", b, p, version, p)
		wantDrop(t, "of nothing", b, empty, version, empty)
		wantDrop(t, "of nothing, without a book", api.Book{}, empty, version, empty)
	}
}

func TestEdges(t *testing.T) {
	for many := range api.MaxVersions + 1 {
		b := line(many)
		for room := range api.MaxRoom + 1 {
			for _, there := range []bool{true, false} {
				wantPeer(t, "nothing kept", b, api.Peer{There: there, Room: room})
				wantPeer(t, "nothing kept", b, api.Peer{There: there, Room: room, K: []api.Kept{}})
			}
		}
		p := some(b, subsets(many)[1<<many-1])
		wantPeer(t, "all that there is room for", b, p)
		p.Room = api.MaxRoom
		wantPeer(t, "all, and most room", b, p)
	}
	wantPeer(t, "an empty book", api.Book{V: []api.Version{}}, api.Peer{Room: 1})
	wantNotKept(t, "nothing to be kept of an empty book", api.Book{}, api.Peer{Room: 1}, api.Kept{}, api.ErrWho)
	wantNotKept(t, "no room at all", family(), api.Peer{}, kept(0), api.ErrFull)
	wantNotKept(t, "no room at all, no book", api.Book{}, api.Peer{}, api.Kept{}, api.ErrFull)
}

// TestAllShares: each share that may be, with each value, is kept.
func TestAllShares(t *testing.T) {
	for need := 1; need <= api.MaxNeed; need++ {
		for of := need; of <= api.MaxShares; of++ {
			for size := 1; size <= api.MaxData; size++ {
				p := api.Plan{Need: need, Of: of, Size: size}
				b := api.Book{V: []api.Version{{P: plan(0)}, {P: p}}}
				for n := range of {
					k := api.Kept{Version: 1, S: api.Share{N: n}}
					for i := range long(p) {
						k.S.Values = append(k.S.Values, (n+i+size)%api.Prime)
					}
					wantKeep(t, "a share", b, api.Peer{Room: 1}, k, api.Peer{Room: 1, K: []api.Kept{k}})
				}
			}
		}
	}
}

// TestSubsets: peers that keep each choice of versions, and each version put to
// it or taken from it.
func TestSubsets(t *testing.T) {
	for _, many := range []int{1, 2, 5, api.MaxVersions} {
		b := line(many)
		for _, versions := range subsets(many) {
			p := some(b, versions)
			wantPeer(t, "some", b, p)
			for v := range many {
				at := slices.Index(versions, v)
				if got := Find(p, v); got != at {
					t.Fatalf("Find(%v, %d): %d, want %d", p, v, got, at)
				}
				rest := slices.DeleteFunc(slices.Clone(versions), func(k int) bool { return k == v })
				less := some(b, rest)
				less.There, less.Room = p.There, p.Room
				wantDrop(t, "some", b, p, v, less)
				k := api.Kept{Version: v, S: shareOf(b.V[v].P, v)}
				wantNotKept(t, "as many as there is room for", b, p, k, api.ErrFull)
				roomier := p
				roomier.Room++
				if at >= 0 {
					wantNotKept(t, "one that is kept", b, roomier, k, api.ErrTwice)
					wantKeep(t, "what was dropped", b, less, k, p)
					continue
				}
				all := append(slices.Clone(versions), v)
				slices.Sort(all)
				more := some(b, all)
				more.There = p.There
				wantKeep(t, "some", b, roomier, k, more)
			}
		}
	}
}

func TestBookErrors(t *testing.T) {
	p := api.Plan{Need: 2, Of: 3, Size: 3}
	for _, c := range []struct {
		what string
		l    []api.Version
		want api.Errno
	}{
		{"too many", line(api.MaxVersions + 1).V, api.ErrMany},
		{"very many", make([]api.Version, 100000), api.ErrMany},
		{"no plan", []api.Version{{}}, api.ErrRange},
		{"no plan, behind others", append(family().V, api.Version{P: api.Plan{Need: 4, Of: 3, Size: 3}}), api.ErrRange},
		{"no elder parent", []api.Version{{P: p}, {Parents: []int{1}, P: p}}, api.ErrWho},
		{"a parent below 0", []api.Version{{Parents: []int{-1}, P: p}}, api.ErrWho},
		{"a parent twice", []api.Version{{P: p}, {Parents: []int{0, 0}, P: p}}, api.ErrTwice},
		{"parents that don't rise", []api.Version{{P: p}, {P: p}, {Parents: []int{1, 0}, P: p}}, api.ErrTwice},
	} {
		b := api.Book{V: c.l}
		wantError(t, c.what, b, api.Peer{Room: 1}, c.want)
		wantError(t, c.what+", one kept", b, keeps(1, kept(0)), c.want)
		wantError(t, c.what+", no room", b, keeps(-1), c.want)
		wantError(t, c.what+", too many kept", b, keeps(1, kept(0), kept(1)), c.want)
		wantError(t, c.what+", no such version", b, keeps(1, kept(-1)), c.want)
		wantError(t, c.what+", twice", b, keeps(2, kept(0), kept(0)), c.want)
		wantError(t, c.what+", no share", b, keeps(2, api.Kept{}), c.want)
	}
}

func TestRoom(t *testing.T) {
	for _, room := range []int{math.MinInt, -api.MaxRoom, -1, api.MaxRoom + 1, 2 * api.MaxRoom, math.MaxInt} {
		wantError(t, "no room", family(), keeps(room), api.ErrRange)
		wantError(t, "no room, no book", api.Book{}, keeps(room), api.ErrRange)
		wantError(t, "no room, one kept", family(), keeps(room, kept(1)), api.ErrRange)
		wantError(t, "no room ahead of full", family(), keeps(room, make([]api.Kept, 2*api.MaxRoom+1)...), api.ErrRange)
		wantError(t, "no room ahead of who", family(), keeps(room, kept(-1)), api.ErrRange)
		wantError(t, "no room ahead of twice", family(), keeps(room, kept(2), kept(1)), api.ErrRange)
	}
}

func TestFull(t *testing.T) {
	b := line(api.MaxVersions)
	for many := 1; many <= api.MaxVersions; many++ {
		p := some(b, subsets(api.MaxVersions)[1<<many-1])
		for room := range many {
			p.Room = room
			wantError(t, "more than there is room for", b, p, api.ErrFull)
		}
	}
	wantError(t, "full ahead of who", b, keeps(1, kept(-1), kept(12)), api.ErrFull)
	wantError(t, "full ahead of who, no book", api.Book{}, keeps(0, kept(0)), api.ErrFull)
	wantError(t, "full ahead of twice", b, keeps(1, kept(1), kept(1)), api.ErrFull)
	wantError(t, "full ahead of no share", b, keeps(0, api.Kept{}), api.ErrFull)
	wantError(t, "very many", b, keeps(api.MaxRoom, make([]api.Kept, 100000)...), api.ErrFull)
	l := make([]api.Kept, api.MaxRoom+1)
	for i := range l {
		l[i] = kept(0)
	}
	wantError(t, "most room, and one more", family(), keeps(api.MaxRoom, l...), api.ErrFull)
	wantError(t, "most room", family(), keeps(api.MaxRoom, l[1:]...), api.ErrTwice)
}

// TestVersions: each number as a version, alone, ahead of and behind others.
func TestVersions(t *testing.T) {
	b := family()
	for _, v := range []int{math.MinInt, -5, -2, -1, 5, 6, api.MaxVersions, math.MaxInt} {
		k := kept(2)
		k.Version = v
		wantError(t, "no such version", b, keeps(3, k), api.ErrWho)
		wantError(t, "no such version, ahead", b, keeps(3, k, kept(2)), api.ErrWho)
		wantError(t, "no such version, behind", b, keeps(3, kept(2), k), api.ErrWho)
		wantError(t, "no such version, twice", b, keeps(3, k, k), api.ErrWho)
		wantError(t, "no book", api.Book{}, keeps(3, k), api.ErrWho)
		wantNotKept(t, "no such version", b, keeps(3, kept(0), kept(4)), k, api.ErrWho)
		wantNotKept(t, "no such version", b, keeps(3), k, api.ErrWho)
		wantNotKept(t, "no such version, no share", b, keeps(3), api.Kept{Version: v}, api.ErrWho)
		wantNotKept(t, "no book", api.Book{}, keeps(3), k, api.ErrWho)
	}
	wantError(t, "0, of no book", api.Book{}, keeps(3, kept(0)), api.ErrWho)
	for first := range b.V {
		for second := range b.V {
			p := keeps(2, kept(first), kept(second))
			if first < second {
				wantPeer(t, "rising", b, p)
				continue
			}
			wantError(t, "not rising", b, p, api.ErrTwice)
			for third := range b.V {
				wantError(t, "not rising", b, keeps(3, p.K[0], p.K[1], kept(third)), api.ErrTwice)
			}
		}
	}
	wantError(t, "twice, with another between", b, keeps(3, kept(0), kept(1), kept(0)), api.ErrTwice)
}

// badShares: no shares of the family's versions, by their error.
func badShares() []struct {
	what string
	s    api.Share
	e    api.Errno
} {
	return []struct {
		what string
		s    api.Share
		e    api.Errno
	}{
		{"N below 0", api.Share{N: -1, Values: []int{1, 2}}, api.ErrWho},
		{"N far below 0", api.Share{N: math.MinInt, Values: []int{1, 2}}, api.ErrWho},
		{"N is Of", api.Share{N: 3, Values: []int{1, 2}}, api.ErrWho},
		{"N far above", api.Share{N: math.MaxInt, Values: []int{1, 2}}, api.ErrWho},
		{"no values", api.Share{N: 2}, api.ErrForm},
		{"too few values", api.Share{N: 2, Values: []int{1}}, api.ErrForm},
		{"too many values", api.Share{N: 2, Values: []int{1, 2, 3}}, api.ErrForm},
		{"very many values", api.Share{N: 2, Values: make([]int, 100000)}, api.ErrForm},
		{"a value below 0", api.Share{N: 2, Values: []int{-1, 2}}, api.ErrRange},
		{"a value far below 0", api.Share{N: 2, Values: []int{1, math.MinInt}}, api.ErrRange},
		{"a value is the prime", api.Share{N: 2, Values: []int{1, api.Prime}}, api.ErrRange},
		{"a value far above", api.Share{N: 2, Values: []int{math.MaxInt, 2}}, api.ErrRange},
		{"who ahead of form", api.Share{N: 3}, api.ErrWho},
		{"who ahead of range", api.Share{N: -1, Values: []int{-1, 31}}, api.ErrWho},
		{"form ahead of range", api.Share{N: 0, Values: []int{-1}}, api.ErrForm},
	}
}

func TestShareErrors(t *testing.T) {
	b := family()
	for _, c := range badShares() {
		for version := range b.V {
			k := api.Kept{Version: version, S: c.s}
			p := some(b, subsets(5)[31])
			p.K[version] = k
			wantError(t, c.what, b, p, c.e)
			wantError(t, c.what+", alone", b, keeps(1, k), c.e)
			less := keeps(api.MaxRoom, slices.Delete(slices.Clone(p.K), version, version+1)...)
			wantNotKept(t, c.what, b, less, k, c.e)
			wantNotKept(t, c.what+", alone", b, keeps(1), k, c.e)
			less.Room = 4
			wantNotKept(t, "full ahead of "+c.what, b, less, k, api.ErrFull)
			wantNotKept(t, "twice ahead of "+c.what, b, keeps(2, kept(version)), k, api.ErrTwice)
		}
	}
}

// TestOwnPlan: a share is held against the plan of its own version.
func TestOwnPlan(t *testing.T) {
	b := api.Book{V: []api.Version{{P: api.Plan{Need: 1, Of: 2, Size: 3}}, {P: api.Plan{Need: 2, Of: 4, Size: 4}}, {P: api.Plan{Need: 3, Of: 3, Size: 3}}}}
	shares := []api.Share{{N: 1, Values: []int{1, 2, 3}}, {N: 3, Values: []int{1, 2}}, {N: 2, Values: []int{1}}}
	wants := [][]api.Errno{
		{api.OK, api.ErrForm, api.ErrForm},
		{api.ErrWho, api.OK, api.ErrWho},
		{api.ErrWho, api.ErrForm, api.OK},
	}
	for i, s := range shares {
		for v, want := range wants[i] {
			k := api.Kept{Version: v, S: s}
			if e := Check(b, keeps(1, k)); e != want {
				t.Errorf("Check of %v: error %d, want %d", k, e, want)
			}
			if _, e := Keep(b, keeps(1), k); e != want {
				t.Errorf("Keep of %v: error %d, want %d", k, e, want)
			}
		}
	}
}

// fault of a peer: where it is told, and its error.
type fault struct {
	where []int // Place, turn
	e     api.Errno
}

// first: Check's error of a peer of the family's, by the faults of all kinds,
// each looked for alone.
func first(p api.Peer) api.Errno {
	var l []fault
	found := func(place, turn int, e api.Errno) { l = append(l, fault{[]int{place, turn}, e}) }
	if p.Room < 0 || api.MaxRoom < p.Room {
		found(-2, 0, api.ErrRange)
	}
	if p.Room < len(p.K) {
		found(-1, 0, api.ErrFull)
	}
	for i, k := range p.K {
		if !slices.Contains([]int{0, 1, 2, 3, 4}, k.Version) {
			found(i, 0, api.ErrWho)
		}
		if i > 0 && p.K[i-1].Version >= k.Version {
			found(i, 1, api.ErrTwice)
		}
		if !slices.Contains([]int{0, 1, 2}, k.S.N) {
			found(i, 2, api.ErrWho)
		}
		if len(k.S.Values) != 2 {
			found(i, 3, api.ErrForm)
		}
		for _, v := range k.S.Values {
			if v < 0 || api.Prime <= v {
				found(i, 4, api.ErrRange)
			}
		}
	}
	if len(l) == 0 {
		return api.OK
	}
	return slices.MinFunc(l, func(a, b fault) int { return slices.Compare(a.where, b.where) }).e
}

// choice of what may be kept, and may not be, of the family's.
func choice() []api.Kept {
	var l []api.Kept
	for _, version := range []int{-1, 0, 1, 4, 5} {
		for _, s := range []api.Share{{N: 1, Values: []int{0, 30}}, {N: 3, Values: []int{0, 30}}, {N: 2, Values: []int{31}}, {Values: []int{0, 31}}} {
			l = append(l, api.Kept{Version: version, S: s})
		}
	}
	return l
}

// TestFirstFault: peers that keep up to three, with faults of all kinds
// together.
func TestFirstFault(t *testing.T) {
	seen := map[api.Errno]int{}
	b := family()
	compare := func(p api.Peer) {
		want := first(p)
		seen[want]++
		if e := Check(b, p); e != want {
			t.Fatalf("Check(%v): error %d, want %d", p, e, want)
		}
		if made, e := Drop(b, p, 9); e != want || e != api.OK && !nothing(made) || e == api.OK && !alike(made, p) {
			t.Fatalf("Drop(%v, 9): %v, error %d, want error %d", p, made, e, want)
		}
	}
	for _, room := range []int{-1, 0, 1, 2, 3, api.MaxRoom, api.MaxRoom + 1} {
		compare(keeps(room))
		for _, k := range choice() {
			compare(keeps(room, k))
			for _, l := range choice() {
				compare(keeps(room, k, l))
				for _, m := range choice() {
					compare(keeps(room, k, l, m))
				}
			}
		}
	}
	for _, e := range []api.Errno{api.OK, api.ErrRange, api.ErrFull, api.ErrWho, api.ErrTwice, api.ErrForm} {
		if seen[e] < 7 {
			t.Errorf("there are too few of one kind: %v", seen)
		}
	}
}

// turn of Keep: its error, each one asked for alone; where there is none, what
// it answers.
func turn(p api.Peer, k api.Kept) (api.Peer, api.Errno) {
	if e := first(p); e != api.OK {
		return api.Peer{}, e
	}
	if len(p.K) >= p.Room {
		return api.Peer{}, api.ErrFull
	}
	for _, o := range p.K {
		if o.Version == k.Version {
			return api.Peer{}, api.ErrTwice
		}
	}
	want := copied(p)
	want.K = append(want.K, k)
	slices.SortFunc(want.K, func(a, b api.Kept) int { return a.Version - b.Version })
	if e := first(want); e != api.OK {
		return api.Peer{}, e
	}
	return want, api.OK
}

// TestKeepFirstFault: as TestFirstFault, and one more to be kept.
func TestKeepFirstFault(t *testing.T) {
	seen := map[api.Errno]int{}
	b := family()
	compare := func(p api.Peer, k api.Kept) {
		want, e := turn(p, k)
		seen[e]++
		made, got := Keep(b, p, k)
		if got != e || e != api.OK && !nothing(made) || e == api.OK && !alike(made, want) {
			t.Fatalf("Keep(%v, %v): %v, error %d, want %v, error %d", p, k, made, got, want, e)
		}
	}
	for _, room := range []int{-1, 0, 1, 2, 3, api.MaxRoom, api.MaxRoom + 1} {
		for _, k := range choice() {
			compare(keeps(room), k)
			for _, l := range choice() {
				compare(keeps(room, l), k)
				for _, m := range choice() {
					compare(keeps(room, l, m), k)
				}
			}
		}
	}
	for _, e := range []api.Errno{api.OK, api.ErrRange, api.ErrFull, api.ErrWho, api.ErrTwice, api.ErrForm} {
		if seen[e] < 7 {
			t.Errorf("there are too few of one kind: %v", seen)
		}
	}
}

func TestFind(t *testing.T) {
	at := func(versions ...int) api.Peer {
		p := api.Peer{Room: -1} // Check would refuse each of them.
		for _, v := range versions {
			p.K = append(p.K, api.Kept{Version: v, S: api.Share{N: -9}})
		}
		return p
	}
	for _, c := range []struct {
		p             api.Peer
		version, want int
	}{
		{api.Peer{}, 0, -1},
		{api.Peer{K: []api.Kept{}}, 0, -1},
		{at(), -1, -1},
		{at(0), 0, 0},
		{at(0), 1, -1},
		{at(0), -1, -1},
		{at(3, 1, 2), 3, 0},
		{at(3, 1, 2), 1, 1},
		{at(3, 1, 2), 2, 2},
		{at(3, 1, 2), 0, -1},
		{at(5, 5, 5), 5, 0},
		{at(4, 5, 4, 5), 5, 1},
		{at(1, 0, 0, 1), 0, 1},
		{at(-1, -2), -2, 1},
		{at(7, math.MinInt, math.MaxInt), math.MinInt, 1},
		{at(7, math.MinInt, math.MaxInt), math.MaxInt, 2},
		{api.Peer{K: append(make([]api.Kept, 1000), api.Kept{Version: 77})}, 77, 1000},
	} {
		if got := Find(c.p, c.version); got != c.want {
			t.Errorf("Find(%v, %d): %d, want %d", c.p, c.version, got, c.want)
		}
	}
}

// unlike: peers and others, of which each differs from the first one in one
// field, or in what is there.
func unlike() []api.Peer {
	base := func() api.Peer { return keeps(4, kept(1), kept(2), kept(4)) }
	l := []api.Peer{base()}
	change := func(how func(p *api.Peer)) {
		p := base()
		how(&p)
		l = append(l, p)
	}
	for i := range base().K {
		for _, how := range []func(k *api.Kept){
			func(k *api.Kept) { k.Version += 9 },
			func(k *api.Kept) { k.Version = math.MinInt },
			func(k *api.Kept) { k.S.N += 9 },
			func(k *api.Kept) { k.S.N = -1 },
			func(k *api.Kept) { k.S.Values[0] += 9 },
			func(k *api.Kept) { k.S.Values[1]++ },
			func(k *api.Kept) { k.S.Values = nil },
			func(k *api.Kept) { k.S.Values = k.S.Values[:1] },
			func(k *api.Kept) { k.S.Values = k.S.Values[1:] },
			func(k *api.Kept) { k.S.Values = append(k.S.Values, 0) },
			func(k *api.Kept) { slices.Reverse(k.S.Values) },
		} {
			change(func(p *api.Peer) { how(&p.K[i]) })
		}
		change(func(p *api.Peer) { p.K = slices.Delete(p.K, i, i+1) })
		change(func(p *api.Peer) { p.K = slices.Insert(p.K, i, kept(i), kept(i)) })
	}
	change(func(p *api.Peer) { p.There = false })
	change(func(p *api.Peer) { p.Room++ })
	change(func(p *api.Peer) { p.Room = math.MinInt })
	change(func(p *api.Peer) { p.K = nil })
	change(func(p *api.Peer) { p.K = append(p.K, api.Kept{}) })
	change(func(p *api.Peer) { p.K[0], p.K[1] = p.K[1], p.K[0] })
	change(func(p *api.Peer) { p.K[0].S, p.K[1].S = p.K[1].S, p.K[0].S })
	change(func(p *api.Peer) { p.K = make([]api.Kept, 3) })
	return append(l, api.Peer{}, api.Peer{There: true})
}

func TestSame(t *testing.T) {
	l := unlike()
	for i, a := range l {
		for j, b := range l {
			if Same(a, copied(b)) != (i == j) {
				t.Errorf("Same(%v, %v) isn't %v", a, b, i == j)
			}
		}
	}
	for _, c := range []struct{ a, b api.Peer }{
		{api.Peer{}, api.Peer{K: []api.Kept{}}},
		{keeps(-5), keeps(-5, []api.Kept{}...)},
		{keeps(1, api.Kept{}), keeps(1, api.Kept{S: api.Share{Values: []int{}}})},
	} {
		if !Same(c.a, c.b) || !Same(c.b, c.a) || !Same(c.a, c.a) {
			t.Errorf("Same(%#v, %#v) isn't true", c.a, c.b)
		}
	}
}

const mark = 77

// roomy: l with spare room behind it that is marked.
func roomy(l []int) []int { return append(slices.Clone(l), mark, mark)[:len(l)] }

// roomyKept: k with marked spare room behind its values.
func roomyKept(k api.Kept) api.Kept {
	k.S.Values = roomy(k.S.Values)
	return k
}

// roomyPeer: p with marked spare room behind each list of it.
func roomyPeer(p api.Peer) api.Peer {
	c := copied(p)
	for i, k := range c.K {
		c.K[i] = roomyKept(k)
	}
	spare := roomyKept(api.Kept{Version: mark, S: api.Share{N: mark, Values: []int{mark}}})
	c.K = append(c.K, spare, api.Kept{Version: -mark})[:len(p.K)]
	return c
}

// roomyBook: b with marked spare room behind each list of it.
func roomyBook(b api.Book) api.Book {
	c := api.Book{V: slices.Clone(b.V)}
	for k, v := range c.V {
		c.V[k].Parents = roomy(v.Parents)
	}
	spare := api.Version{Parents: roomy([]int{mark}), P: api.Plan{Need: mark}}
	c.V = append(c.V, spare, api.Version{P: api.Plan{Of: mark}})[:len(b.V)]
	return c
}

// handed in to a call.
type handed struct {
	b api.Book
	p api.Peer
	k api.Kept
}

// everything: a deep copy of h, with the spare room behind each list as a part
// of the list.
func everything(h handed) handed {
	h.b.V = slices.Clone(h.b.V[:cap(h.b.V)])
	for k, v := range h.b.V {
		h.b.V[k].Parents = slices.Clone(v.Parents[:cap(v.Parents)])
	}
	h.p.K = slices.Clone(h.p.K[:cap(h.p.K)])
	for i, k := range h.p.K {
		h.p.K[i].S.Values = slices.Clone(k.S.Values[:cap(k.S.Values)])
	}
	h.k.S.Values = slices.Clone(h.k.S.Values[:cap(h.k.S.Values)])
	return h
}

// guard answers whether h is, with all its spare room, as it was.
func guard(h handed) func() bool {
	was := everything(h)
	return func() bool { return reflect.DeepEqual(everything(h), was) }
}

// wipe writes over all of l, and the spare room behind it.
func wipe(l []int) {
	l = l[:cap(l)]
	for i := range l {
		l[i] = -mark
	}
}

func wipePeer(p api.Peer) {
	l := p.K[:cap(p.K)]
	for i := range l {
		wipe(l[i].S.Values)
		l[i] = api.Kept{Version: -mark}
	}
}

// apart: writing over the values of one that p keeps, and the room behind
// them, changes no other.
func apart(p api.Peer) bool {
	want := copied(p)
	for i := range p.K {
		wipe(p.K[i].S.Values)
		want.K[i].S.Values = slices.Clone(p.K[i].S.Values)
		if !alike(p, want) {
			return false
		}
	}
	return true
}

// wantNew: what call answers is want, and no memory of it is of another answer
// of its or of what was handed in, which stays as it was.
func wantNew(t *testing.T, what string, h handed, want api.Peer, call func() (api.Peer, api.Errno)) {
	t.Helper()
	untouched := guard(h)
	made, e := call()
	if e != api.OK || !alike(made, want) || !untouched() {
		t.Fatalf("%s: %v, error %d, want %v, or what was handed in is changed", what, made, e, want)
	}
	other, _ := call()
	wipePeer(other)
	if !alike(made, want) || !untouched() {
		t.Fatalf("%s: what is answered shares memory", what)
	}
	wipePeer(h.p)
	wipe(h.k.S.Values)
	if !alike(made, want) || !apart(made) {
		t.Fatalf("%s: what is answered shares memory", what)
	}
}

func TestAnswersAreNewMemory(t *testing.T) {
	b := line(6)
	for _, versions := range subsets(6) {
		for v := range 6 {
			plain := some(b, versions)
			plain.Room++
			k := api.Kept{Version: v, S: shareOf(b.V[v].P, v)}
			if want, e := Keep(b, plain, k); e == api.OK {
				h := handed{roomyBook(b), roomyPeer(plain), roomyKept(k)}
				wantNew(t, "Keep", h, copied(want), func() (api.Peer, api.Errno) { return Keep(h.b, h.p, h.k) })
			}
			for _, gone := range []int{v, -1} {
				want, _ := Drop(b, plain, gone)
				h := handed{roomyBook(b), roomyPeer(plain), roomyKept(k)}
				wantNew(t, "Drop", h, copied(want), func() (api.Peer, api.Errno) { return Drop(h.b, h.p, gone) })
			}
		}
	}
}

// TestOneMemory: the lists that are handed in share memory with each other,
// those that are answered don't.
func TestOneMemory(t *testing.T) {
	values := []int{4, 5, 6}
	of := func(version int) api.Kept { return api.Kept{Version: version, S: api.Share{Values: values[:2]}} }
	made, e := Keep(family(), keeps(4, of(0), of(1), of(4)), of(2))
	if e != api.OK || len(made.K) != 4 || !apart(made) || !slices.Equal(values, []int{4, 5, 6}) {
		t.Errorf("Keep of one memory: %v, error %d", made, e)
	}
	made, e = Drop(family(), keeps(4, of(0), of(1), of(2), of(4)), 1)
	if e != api.OK || len(made.K) != 3 || !apart(made) || !slices.Equal(values, []int{4, 5, 6}) {
		t.Errorf("Drop of one memory: %v, error %d", made, e)
	}
}

// TestOnlyRead: nor does Check, Find or Same change anything, or a call that
// has an error.
func TestOnlyRead(t *testing.T) {
	torn := family()
	torn.V[3].Parents = []int{2, 1}
	for _, b := range []api.Book{{}, family(), torn, line(api.MaxVersions + 1)} {
		for _, p := range []api.Peer{{}, keeps(2, kept(1)), keeps(1, kept(1)), keeps(3, kept(4), kept(0)), keeps(-1, kept(2)), keeps(2, api.Kept{})} {
			for _, k := range []api.Kept{kept(0), kept(1), kept(4), kept(5), {Version: 2}} {
				h := handed{roomyBook(b), roomyPeer(p), roomyKept(k)}
				untouched := guard(h)
				Check(h.b, h.p)
				Find(h.p, k.Version)
				if !Same(h.p, p) || !Same(p, h.p) || !untouched() {
					t.Errorf("%v was changed by Check, Find or Same", p)
				}
				Keep(h.b, h.p, h.k)
				Drop(h.b, h.p, h.k.Version)
				if !untouched() {
					t.Errorf("Keep or Drop of %v, %v, %v changed what was handed in", b, p, k)
				}
			}
		}
	}
}
