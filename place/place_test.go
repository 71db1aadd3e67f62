package place

import (
	"math"
	"reflect"
	"slices"
	"testing"

	"cellarman/api"
)

// line: a book of so many versions, each of the one ahead; a share of version k
// has k+1 values, and is of two shares.
func line(many int) api.Book {
	var b api.Book
	for k := range many {
		v := api.Version{P: api.Plan{Need: 1, Of: 2, Size: k + 1}}
		if k > 0 {
			v.Parents = []int{k - 1}
		}
		b.V = append(b.V, v)
	}
	return b
}

// kept: a share of this version of a line.
func kept(version int) api.Kept {
	return api.Kept{Version: version, S: api.Share{N: version % 2, Values: slices.Repeat([]int{30 - version}, version+1)}}
}

// there: a peer that is there, with so much room, that keeps these versions of
// a line.
func there(room int, versions ...int) api.Peer {
	p := api.Peer{There: true, Room: room}
	for _, v := range versions {
		p.K = append(p.K, kept(v))
	}
	return p
}

// away: as there, but it isn't.
func away(room int, versions ...int) api.Peer {
	p := there(room, versions...)
	p.There = false
	return p
}

// upTo: the numbers from 0 to below many.
func upTo(many int) []int {
	var l []int
	for k := range many {
		l = append(l, k)
	}
	return l
}

// wantFor: these peers are answered.
func wantFor(t *testing.T, what string, b api.Book, l []api.Peer, version int, want ...int) {
	t.Helper()
	if got, e := For(b, l, version, len(want)); e != api.OK || !slices.Equal(got, want) {
		t.Errorf("%s: For(%v, %d, %d): %v, error %d, want %v", what, l, version, len(want), got, e, want)
	}
}

// wantNone: this error, and nothing beside it.
func wantNone(t *testing.T, what string, b api.Book, l []api.Peer, version, many int, want api.Errno) {
	t.Helper()
	if got, e := For(b, l, version, many); e != want || got != nil {
		t.Errorf("%s: For(.., %d, %d): %v, error %d, want error %d", what, version, many, got, e, want)
	}
}

// wantError: Check's error is For's, whatever version and many are.
func wantError(t *testing.T, what string, b api.Book, l []api.Peer, want api.Errno) {
	t.Helper()
	if e := Check(b, l); e != want {
		t.Errorf("%s: Check: error %d, want %d", what, e, want)
	}
	for _, many := range []int{math.MinInt, -1, 0, 1, api.MaxPeers, api.MaxPeers + 1, math.MaxInt} {
		for _, version := range []int{-1, 0, 1, math.MaxInt} {
			wantNone(t, what, b, l, version, many, want)
		}
	}
}

// wantAll: as many as can be, in this order, and each smaller number of them
// from the first on; no more.
func wantAll(t *testing.T, what string, b api.Book, l []api.Peer, version int, want ...int) {
	t.Helper()
	if e := Check(b, l); e != api.OK {
		t.Errorf("%s: Check(%v): error %d", what, l, e)
	}
	for many := range want {
		wantFor(t, what, b, l, version, want[:many]...)
	}
	wantFor(t, what, b, l, version, want...)
	for many := len(want) + 1; many <= api.MaxPeers; many++ {
		wantNone(t, what+", too few", b, l, version, many, api.ErrShort)
	}
	for _, many := range []int{math.MinInt, -api.MaxPeers, -1, api.MaxPeers + 1, 2 * api.MaxPeers, math.MaxInt} {
		wantNone(t, what+", no such many", b, l, version, many, api.ErrRange)
	}
}

func TestWrittenOut(t *testing.T) {
	b := line(5)
	l := []api.Peer{there(1), there(3), away(9), there(3, 1), there(0), there(2, 0, 4), there(7, 2, 3)}
	wantAll(t, "kept by nobody else", b, l, 2, 1, 3, 0)
	wantAll(t, "kept by one", b, l, 1, 6, 1, 0)
	wantAll(t, "kept by one that is full", b, l, 4, 6, 1, 3, 0)
	wantAll(t, "room that is left, not room", b, []api.Peer{there(5, 0, 1, 2), there(3), there(6, 0, 1, 3, 4)}, 9, 1, 0, 2)
	wantAll(t, "one that is away", b, []api.Peer{away(1)}, 0)
	wantAll(t, "one without room", b, []api.Peer{there(0)}, 0)
	wantAll(t, "one that is full", b, []api.Peer{there(2, 1, 3)}, 0)
	wantAll(t, "one that has it", b, []api.Peer{there(2, 0)}, 0)
	wantAll(t, "the last room of one", b, []api.Peer{there(3, 1, 3)}, 0, 0)
	wantAll(t, "away, but the most room", b, []api.Peer{away(api.MaxRoom), there(1)}, 0, 1)
	wantAll(t, "it has it, but the most room", b, []api.Peer{there(api.MaxRoom, 0), there(1)}, 0, 1)
	wantAll(t, "kept by one that is away", b, []api.Peer{away(2, 0), there(1)}, 0, 1)
}

func TestLikeRoom(t *testing.T) {
	b := line(5)
	wantAll(t, "all alike", b, []api.Peer{there(2), there(2), there(2)}, 0, 0, 1, 2)
	wantAll(t, "like room, not as much left", b, []api.Peer{there(4, 1, 2), there(4, 1), there(4), there(4, 3)}, 0, 2, 1, 3, 0)
	wantAll(t, "as much left, not like room", b, []api.Peer{there(3), there(5, 1, 2), there(4, 3), there(7, 1, 2, 3, 4)}, 0, 0, 1, 2, 3)
	wantAll(t, "two and two", b, []api.Peer{there(1), there(2), there(1), there(2)}, 0, 1, 3, 0, 2)
	wantAll(t, "around others", b, []api.Peer{there(2), away(2), there(2), there(2, 0), there(9), there(2)}, 0, 4, 0, 2, 5)
}

func TestEdges(t *testing.T) {
	versions := []int{math.MinInt, -1, 0, 1, api.MaxVersions, math.MaxInt}
	for many := range api.MaxVersions + 1 {
		b := line(many)
		for _, v := range versions {
			wantAll(t, "no peers at all", b, nil, v)
			wantAll(t, "an empty list of peers", b, []api.Peer{}, v)
			wantAll(t, "peers without room", b, make([]api.Peer, api.MaxPeers), v)
		}
		full := []api.Peer{there(many, upTo(many)...), there(many+1, upTo(many)...)}
		for v := range many {
			wantAll(t, "all versions are kept", b, full, v)
		}
		wantAll(t, "not the next version", b, full, many, 1)
	}
	for _, b := range []api.Book{{}, {V: []api.Version{}}} {
		for _, v := range versions {
			wantAll(t, "an empty book", b, []api.Peer{there(1), away(4), {There: true, Room: 2, K: []api.Kept{}}}, v, 2, 0)
		}
	}
	var rising, falling, alike []api.Peer
	for n := range api.MaxPeers {
		rising = append(rising, there(api.MaxRoom-api.MaxPeers+1+n))
		falling = append(falling, there(api.MaxPeers-n))
		alike = append(alike, there(api.MaxRoom))
	}
	wantAll(t, "most peers, room that rises", line(1), rising, 0, 7, 6, 5, 4, 3, 2, 1, 0)
	wantAll(t, "most peers, room that falls", line(1), falling, 0, 0, 1, 2, 3, 4, 5, 6, 7)
	wantAll(t, "most peers, like room", line(1), alike, 0, 0, 1, 2, 3, 4, 5, 6, 7)
}

// TestVersions: kept by none, by one, by some and by all; and those that aren't
// in the book, which nobody keeps.
func TestVersions(t *testing.T) {
	b := line(api.MaxVersions)
	l := []api.Peer{there(api.MaxRoom, 1, 2, 11), there(api.MaxRoom, 0, 2, 5, 11), there(api.MaxRoom, 2, 11)}
	for v, want := range map[int][]int{
		0: {2, 0}, 1: {2, 1}, 2: nil, 3: {2, 0, 1}, 5: {2, 0}, 10: {2, 0, 1}, 11: nil,
		-1: {2, 0, 1}, 12: {2, 0, 1}, 13: {2, 0, 1}, math.MinInt: {2, 0, 1}, math.MaxInt: {2, 0, 1},
	} {
		wantAll(t, "some versions", b, l, v, want...)
	}
	for v := range api.MaxVersions {
		rest := slices.Delete(upTo(api.MaxVersions), v, v+1)
		all := there(api.MaxRoom, upTo(api.MaxVersions)...)
		wantAll(t, "all but one", b, []api.Peer{all, there(12, rest...), there(13, rest...), all}, v, 2, 1)
	}
}

// badBook: a book that chapter 5 refuses, and its error.
type badBook struct {
	what string
	b    api.Book
	e    api.Errno
}

func badBooks() []badBook {
	var l []badBook
	add := func(what string, e api.Errno, how func(b *api.Book)) {
		b := line(5)
		how(&b)
		l = append(l, badBook{what, b, e})
	}
	add("too many versions", api.ErrMany, func(b *api.Book) { *b = line(api.MaxVersions + 1) })
	add("very many versions", api.ErrMany, func(b *api.Book) { b.V = make([]api.Version, 100000) })
	add("a parent below 0", api.ErrWho, func(b *api.Book) { b.V[0].Parents = []int{-1} })
	add("a version that comes from itself", api.ErrWho, func(b *api.Book) { b.V[4].Parents = []int{4} })
	add("a parent twice", api.ErrTwice, func(b *api.Book) { b.V[1].Parents = []int{0, 0} })
	add("parents that don't rise", api.ErrTwice, func(b *api.Book) { b.V[4].Parents = []int{3, 2} })
	add("none is enough", api.ErrRange, func(b *api.Book) { b.V[0].P.Need = 0 })
	add("too many are needed", api.ErrRange, func(b *api.Book) { b.V[4].P = api.Plan{Need: api.MaxNeed + 1, Of: api.MaxShares, Size: 5} })
	add("fewer than needed", api.ErrRange, func(b *api.Book) { b.V[2].P.Of = 0 })
	add("too many shares", api.ErrRange, func(b *api.Book) { b.V[2].P.Of = api.MaxShares + 1 })
	add("no content", api.ErrRange, func(b *api.Book) { b.V[3].P.Size = 0 })
	add("too much content", api.ErrRange, func(b *api.Book) { b.V[3].P.Size = api.MaxData + 1 })
	return l
}

// badPeer: a peer that chapter 7 refuses by a line of five, and its error.
type badPeer struct {
	what string
	p    api.Peer
	e    api.Errno
}

func badPeers() []badPeer {
	var l []badPeer
	add := func(what string, e api.Errno, how func(p *api.Peer)) {
		for _, p := range []api.Peer{there(4, 1, 3), away(4, 1, 3)} {
			how(&p)
			l = append(l, badPeer{what, p, e})
		}
	}
	add("room below 0", api.ErrRange, func(p *api.Peer) { p.Room, p.K = -1, nil })
	add("room far below 0", api.ErrRange, func(p *api.Peer) { p.Room = math.MinInt })
	add("too much room", api.ErrRange, func(p *api.Peer) { p.Room = api.MaxRoom + 1 })
	add("far too much room", api.ErrRange, func(p *api.Peer) { p.Room = math.MaxInt })
	add("more than there is room for", api.ErrFull, func(p *api.Peer) { p.Room = 1 })
	add("more than there is no room for", api.ErrFull, func(p *api.Peer) { p.Room = 0 })
	add("very many kept", api.ErrFull, func(p *api.Peer) { p.K = make([]api.Kept, 100000) })
	add("a version below 0", api.ErrWho, func(p *api.Peer) { p.K[0].Version = -1 })
	add("a version that isn't yet", api.ErrWho, func(p *api.Peer) { p.K[1].Version = 5 })
	add("a version twice", api.ErrTwice, func(p *api.Peer) { p.K[1] = kept(1) })
	add("versions that don't rise", api.ErrTwice, func(p *api.Peer) { p.K[1] = kept(0) })
	add("a share below 0", api.ErrWho, func(p *api.Peer) { p.K[0].S.N = -1 })
	add("a share that isn't", api.ErrWho, func(p *api.Peer) { p.K[1].S.N = 2 })
	add("too few values", api.ErrForm, func(p *api.Peer) { p.K[0].S.Values = []int{1} })
	add("values of another version", api.ErrForm, func(p *api.Peer) { p.K[1].S = kept(1).S })
	add("no values", api.ErrForm, func(p *api.Peer) { p.K[0].S.Values = nil })
	add("a value below 0", api.ErrRange, func(p *api.Peer) { p.K[0].S.Values = []int{0, -1} })
	add("a value that is no number", api.ErrRange, func(p *api.Peer) { p.K[1].S.Values = []int{0, 0, 0, api.Prime} })
	return l
}

// among: as many good peers as there are ahead and behind, with p between.
func among(ahead, behind int, p ...api.Peer) []api.Peer {
	l := slices.Repeat([]api.Peer{there(api.MaxRoom, 4)}, ahead)
	return append(append(l, p...), slices.Repeat([]api.Peer{there(2)}, behind)...)
}

// TestBookErrors: they come ahead of all others.
func TestBookErrors(t *testing.T) {
	for _, c := range badBooks() {
		wantError(t, c.what+", no peers", c.b, nil, c.e)
		wantError(t, c.what+", an empty list of peers", c.b, []api.Peer{}, c.e)
		wantError(t, c.what+", a peer", c.b, []api.Peer{there(1)}, c.e)
		wantError(t, c.what+", most peers", c.b, among(0, api.MaxPeers), c.e)
		wantError(t, c.what+", too many peers", c.b, among(0, api.MaxPeers+1), c.e)
		for _, d := range badPeers() {
			wantError(t, c.what+", "+d.what, c.b, among(0, 1, d.p), c.e)
			wantError(t, c.what+", too many, "+d.what, c.b, among(0, api.MaxPeers, d.p), c.e)
		}
	}
}

// TestTooManyPeers: it comes ahead of all that is told of them one by one.
func TestTooManyPeers(t *testing.T) {
	for _, b := range []api.Book{{}, line(5), line(api.MaxVersions)} {
		for _, many := range []int{api.MaxPeers + 1, api.MaxPeers + 2, 2 * api.MaxPeers, 100000} {
			wantError(t, "too many", b, among(0, many), api.ErrMany)
			wantError(t, "too many that are nothing", b, make([]api.Peer, many), api.ErrMany)
		}
	}
	for _, c := range badPeers() {
		for ahead := range api.MaxPeers + 1 {
			wantError(t, "too many, "+c.what, line(5), among(ahead, api.MaxPeers-ahead, c.p), api.ErrMany)
		}
	}
}

// TestPeerErrors: of each place, and of two the first one's.
func TestPeerErrors(t *testing.T) {
	b := line(5)
	for _, c := range badPeers() {
		for ahead := range api.MaxPeers {
			wantError(t, c.what, b, among(ahead, 0, c.p), c.e)
			wantError(t, c.what+", others behind", b, among(ahead, api.MaxPeers-1-ahead, c.p), c.e)
		}
		for _, d := range badPeers() {
			wantError(t, c.what+" ahead of "+d.what, b, among(0, 0, c.p, d.p), c.e)
			wantError(t, c.what+" ahead of "+d.what+", among others", b, among(2, 3, c.p, d.p), c.e)
		}
	}
	wantError(t, "a version without a book", api.Book{}, []api.Peer{there(1), there(1, 0)}, api.ErrWho)
	wantError(t, "a peer is held against its own book", line(3), []api.Peer{there(4, 2), there(4, 3)}, api.ErrWho)
}

// chosen: who For answers, worked out beside the program: room by room, from
// the most on, all who have just so much left.
func chosen(l []api.Peer, version, many int) ([]int, api.Errno) {
	if !slices.Contains([]int{0, 1, 2, 3, 4, 5, 6, 7, 8}, many) {
		return nil, api.ErrRange
	}
	var who []int
	for room := api.MaxRoom; room > 0; room-- {
		for n, p := range l {
			has := false
			for _, k := range p.K {
				has = has || k.Version == version
			}
			if p.There && !has && len(p.K)+room == p.Room {
				who = append(who, n)
			}
		}
	}
	if len(who) < many {
		return nil, api.ErrShort
	}
	return who[:many], api.OK
}

// choice of peers that may be.
func choice() []api.Peer {
	return []api.Peer{
		there(0), there(1), there(2), there(1, 1), there(2, 1), there(4, 0, 2),
		away(2), away(3, 0), there(2, 0), there(3, 2), there(api.MaxRoom, 0, 1),
	}
}

// compare: does For answer what is worked out beside it?
func compare(t *testing.T, l []api.Peer, seen map[api.Errno]int) {
	t.Helper()
	b := line(3)
	if e := Check(b, l); e != api.OK {
		t.Fatalf("Check(%v): error %d", l, e)
	}
	for version := -1; version <= 3; version++ {
		for many := -1; many <= api.MaxPeers+1; many++ {
			want, e := chosen(l, version, many)
			seen[e]++
			got, f := For(b, l, version, many)
			if e != f || !slices.Equal(got, want) || f != api.OK && got != nil {
				t.Fatalf("For(%v, %d, %d): %v, error %d, want %v, error %d", l, version, many, got, f, want, e)
			}
		}
	}
}

// TestAllChoices: all lists of up to three of the choice, and of most peers
// some that a short rule makes.
func TestAllChoices(t *testing.T) {
	seen := map[api.Errno]int{}
	all := choice()
	compare(t, nil, seen)
	for _, p := range all {
		compare(t, []api.Peer{p}, seen)
		for _, q := range all {
			compare(t, []api.Peer{p, q}, seen)
			for _, r := range all {
				compare(t, []api.Peer{p, q, r}, seen)
			}
		}
	}
	state := uint32(1)
	for range 3000 {
		l := make([]api.Peer, 4+state>>16%5)
		for n := range l {
			state = state*1664525 + 1013904223
			l[n] = all[state>>16%uint32(len(all))]
		}
		compare(t, l, seen)
	}
	for _, e := range []api.Errno{api.OK, api.ErrRange, api.ErrShort} {
		if seen[e] < 10000 {
			t.Errorf("there are too few of one kind: %v", seen)
		}
	}
}

const mark = 77

// behind: l with spare room behind it that holds these.
func behind[T any](l []T, spare ...T) []T { return append(slices.Clone(l), spare...)[:len(l)] }

// handed in to a call.
type handed struct {
	b api.Book
	l []api.Peer
}

// roomy: a deep copy of h, with marked spare room behind each list of it.
func roomy(h handed) handed {
	h.b.V = behind(h.b.V, api.Version{Parents: []int{mark}}, api.Version{P: api.Plan{Need: mark}})
	for k, v := range h.b.V {
		h.b.V[k].Parents = behind(v.Parents, mark, mark)
	}
	h.l = behind(h.l, there(mark, 1), away(mark))
	for n, p := range h.l {
		h.l[n].K = behind(p.K, kept(2), api.Kept{Version: mark})
		for i, k := range h.l[n].K {
			h.l[n].K[i].S.Values = behind(k.S.Values, mark, mark)
		}
	}
	return h
}

// lists of numbers of h, each with the spare room behind it.
func lists(h handed) [][]int {
	var all [][]int
	add := func(l []int) { all = append(all, l[:cap(l)]) }
	for _, v := range h.b.V[:cap(h.b.V)] {
		add(v.Parents)
	}
	for _, p := range h.l[:cap(h.l)] {
		for _, k := range p.K[:cap(p.K)] {
			add(k.S.Values)
		}
	}
	return all
}

// everything: a deep copy of h, with the spare room behind each list as a part
// of the list.
func everything(h handed) handed {
	h.b.V = slices.Clone(h.b.V[:cap(h.b.V)])
	for k, v := range h.b.V {
		h.b.V[k].Parents = slices.Clone(v.Parents[:cap(v.Parents)])
	}
	h.l = slices.Clone(h.l[:cap(h.l)])
	for n, p := range h.l {
		h.l[n].K = slices.Clone(p.K[:cap(p.K)])
		for i, k := range h.l[n].K {
			h.l[n].K[i].S.Values = slices.Clone(k.S.Values[:cap(k.S.Values)])
		}
	}
	return h
}

// guard answers whether h is, with all its spare room, as it was.
func guard(h handed) func() bool {
	was := everything(h)
	return func() bool { return reflect.DeepEqual(everything(h), was) }
}

// wipe writes over all of l, and the spare room behind it.
func wipe(l []int) {
	l = l[:cap(l)]
	for i := range l {
		l[i] = -mark
	}
}

// wantNew: what is answered is of no other answer, and not of what was handed
// in, which stays as it was.
func wantNew(t *testing.T, plain handed, version, many int) {
	t.Helper()
	want, e := chosen(plain.l, version, many)
	h := roomy(plain)
	untouched := guard(h)
	got, f := For(h.b, h.l, version, many)
	other, _ := For(h.b, h.l, version, many)
	if e != f || !slices.Equal(got, want) || !untouched() {
		t.Fatalf("For(.., %d, %d): %v, error %d, want %v, error %d, or what was handed in is changed", version, many, got, f, want, e)
	}
	wipe(other)
	if !slices.Equal(got, want) || !untouched() {
		t.Fatalf("For(.., %d, %d): what is answered shares memory", version, many)
	}
	for _, l := range lists(h) {
		wipe(l)
	}
	if !slices.Equal(got, want) {
		t.Fatalf("For(.., %d, %d): what is answered shares memory with what was handed in", version, many)
	}
}

// TestAnswersAreNewMemory: whichever peer is the first one.
func TestAnswersAreNewMemory(t *testing.T) {
	l := []api.Peer{there(1), there(3, 0), away(9, 1), there(api.MaxRoom, 1, 2), there(0), there(2, 3, 4), there(2, 3), there(5)}
	for n := range l {
		turned := append(slices.Clone(l[n:]), l[:n]...)
		for version := -1; version <= 5; version++ {
			for many := range api.MaxPeers + 1 {
				wantNew(t, handed{line(5), turned}, version, many)
			}
		}
	}
}

// TestOnlyRead: nor does Check change anything, or a call that has an error;
// and nothing is left behind: a call answers as it did ahead of all others.
func TestOnlyRead(t *testing.T) {
	good := []api.Peer{there(1), there(4, 1), away(3), there(9, 0, 1)}
	look := func(what string, b api.Book, l []api.Peer) {
		h := roomy(handed{b, l})
		untouched := guard(h)
		Check(h.b, h.l)
		for _, many := range []int{math.MinInt, -1, 0, 2, api.MaxPeers, math.MaxInt} {
			For(h.b, h.l, 0, many)
		}
		if !untouched() {
			t.Errorf("%s: what was handed in is changed", what)
		}
		wantAll(t, "behind "+what, line(5), good, 1, 0)
	}
	look("good ones", line(5), good)
	look("too many", line(5), among(3, api.MaxPeers))
	for _, c := range badBooks() {
		look(c.what, c.b, good)
	}
	for _, c := range badPeers() {
		look(c.what, line(5), among(1, 2, c.p))
	}
}
