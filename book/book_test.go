package book

import (
	"math"
	"reflect"
	"slices"
	"testing"

	"cellarman/api"
)

// plan that may be; another one for each k.
func plan(k int) api.Plan {
	return api.Plan{Need: 1 + k%api.MaxNeed, Of: api.MaxNeed + k%5, Size: 1 + k%api.MaxData}
}

// badPlans: each field out of its range, by a little and by much.
func badPlans() []api.Plan {
	return []api.Plan{
		{},
		{Need: 0, Of: 3, Size: 3},
		{Need: -1, Of: 3, Size: 3},
		{Need: api.MaxNeed + 1, Of: api.MaxShares, Size: 3},
		{Need: math.MaxInt, Of: math.MaxInt, Size: 3},
		{Need: 2, Of: 1, Size: 3},
		{Need: 2, Of: api.MaxShares + 1, Size: 3},
		{Need: 2, Of: math.MinInt, Size: 3},
		{Need: 2, Of: 3, Size: 0},
		{Need: 2, Of: 3, Size: api.MaxData + 1},
		{Need: 2, Of: 3, Size: math.MinInt},
	}
}

// of: a book of versions with these parents.
func of(parents ...[]int) api.Book {
	var b api.Book
	for k, l := range parents {
		b.V = append(b.V, api.Version{Parents: l, P: plan(k)})
	}
	return b
}

// alone: a book of so many versions without parents.
func alone(many int) api.Book { return of(make([][]int, many)...) }

// line: a book of so many versions, each of the one ahead.
func line(many int) api.Book {
	b := alone(many)
	for k := 1; k < many; k++ {
		b.V[k].Parents = []int{k - 1}
	}
	return b
}

// upTo: the numbers from 0 to below many.
func upTo(many int) []int {
	l := make([]int, many)
	for k := range l {
		l[k] = k
	}
	return l
}

// dense: a book of so many versions, each of all elder ones.
func dense(many int) api.Book {
	b := alone(many)
	for k := range b.V {
		b.V[k].Parents = upTo(k)
	}
	return b
}

// rule gives number after number that look as if they had no order, the same
// ones in each run.
func rule() func(below int) int {
	state := uint32(2463534242)
	return func(below int) int {
		state ^= state << 13
		state ^= state >> 17
		state ^= state << 5
		return int(state>>8) % below
	}
}

// chosen: the book of so many versions whose version k has elder one i as a
// parent just if ask says so.
func chosen(many int, ask func(k, i int) bool) api.Book {
	b := alone(many)
	for k := range b.V {
		for i := range k {
			if ask(k, i) {
				b.V[k].Parents = append(b.V[k].Parents, i)
			}
		}
	}
	return b
}

// books: each of up to five versions, and greater ones of all kinds.
func books() []api.Book {
	var l []api.Book
	for many := range 6 {
		for number := range 1 << (many * (many - 1) / 2) {
			bits := number
			l = append(l, chosen(many, func(k, i int) bool {
				bit := bits & 1
				bits >>= 1
				return bit == 1
			}))
		}
	}
	next := rule()
	for many := 6; many <= api.MaxVersions; many++ {
		l = append(l, alone(many), line(many), dense(many))
		for odds := 2; odds < 8; odds++ {
			for range 20 {
				l = append(l, chosen(many, func(k, i int) bool { return next(odds) == 0 }))
			}
		}
	}
	return l
}

// everything: a deep copy of b, with the spare room behind each list as a part
// of the list.
func everything(b api.Book) api.Book {
	c := api.Book{V: slices.Clone(b.V[:cap(b.V)])}
	for k, v := range c.V {
		c.V[k].Parents = slices.Clone(v.Parents[:cap(v.Parents)])
	}
	return c
}

// copied: a deep copy of b, made beside the program.
func copied(b api.Book) api.Book {
	c := api.Book{V: slices.Clone(b.V)}
	for k, v := range c.V {
		c.V[k].Parents = slices.Clone(v.Parents)
	}
	return c
}

// alike: are two books alike, worked out beside the program?
func alike(a, b api.Book) bool {
	if len(a.V) != len(b.V) {
		return false
	}
	for k := range a.V {
		if a.V[k].P != b.V[k].P || !slices.Equal(a.V[k].Parents, b.V[k].Parents) {
			return false
		}
	}
	return true
}

// wantList: these versions, without an error.
func wantList(t *testing.T, what string, b api.Book, got []int, e api.Errno, want []int) {
	t.Helper()
	if e != api.OK || !slices.Equal(got, want) {
		t.Fatalf("%s of %v: %v, error %d, want %v", what, b, got, e, want)
	}
}

// wantError: this error, and nothing beside it, of all calls that have Check's
// error.
func wantError(t *testing.T, what string, b api.Book, want api.Errno) {
	t.Helper()
	if e := Check(b); e != want {
		t.Errorf("%s: Check(%v): error %d, want %d", what, b, e, want)
	}
	// The version is no good, either, nor is there one of number -1.
	made, e := Add(b, api.Version{Parents: []int{-1, -1}})
	if e != want || made.V != nil {
		t.Errorf("%s: Add(%v): %v, error %d, want error %d", what, b, made, e, want)
	}
	if l, e := Heads(b); e != want || l != nil {
		t.Errorf("%s: Heads(%v): %v, error %d, want error %d", what, b, l, e, want)
	}
	for _, k := range []int{0, len(b.V) - 1, -1, len(b.V)} {
		if l, e := Behind(b, k); e != want || l != nil {
			t.Errorf("%s: Behind(%v, %d): %v, error %d, want error %d", what, b, k, l, e, want)
		}
	}
}

// wantAdd: the version is added.
func wantAdd(t *testing.T, what string, b api.Book, v api.Version, want api.Book) {
	t.Helper()
	if made, e := Add(b, v); e != api.OK || !alike(made, want) {
		t.Fatalf("%s: Add(%v, %v): %v, error %d, want %v", what, b, v, made, e, want)
	}
}

// wantNotAdded: the version isn't added, and nothing is answered beside that.
func wantNotAdded(t *testing.T, what string, b api.Book, v api.Version, want api.Errno) {
	t.Helper()
	if made, e := Add(b, v); e != want || made.V != nil {
		t.Errorf("%s: Add(%v, %v): %v, error %d, want error %d", what, b, v, made, e, want)
	}
}

func TestWrittenOut(t *testing.T) {
	for _, c := range []struct {
		what   string
		b      api.Book
		heads  []int
		behind [][]int
	}{
		{"a nil book", api.Book{}, nil, nil},
		{"an empty book", api.Book{V: []api.Version{}}, nil, nil},
		{"one version", of(nil), []int{0}, [][]int{{0}}},
		{"one line", of(nil, []int{0}, []int{1}, []int{2}), []int{3}, [][]int{{0}, {0, 1}, {0, 1, 2}, {0, 1, 2, 3}}},
		{"none has a parent", of(nil, []int{}, nil), []int{0, 1, 2}, [][]int{{0}, {1}, {2}}},
		{"one has all children", of(nil, []int{0}, []int{0}, []int{0}), []int{1, 2, 3}, [][]int{{0}, {0, 1}, {0, 2}, {0, 3}}},
		{"one has all parents", of(nil, nil, nil, []int{0, 1, 2}), []int{3}, [][]int{{0}, {1}, {2}, {0, 1, 2, 3}}},
		{"apart and together", of(nil, []int{0}, []int{0}, []int{1, 2}, []int{2}), []int{3, 4}, [][]int{{0}, {0, 1}, {0, 2}, {0, 1, 2, 3}, {0, 2, 4}}},
		{"a parent that is another's, too", of(nil, []int{0}, []int{0, 1}), []int{2}, [][]int{{0}, {0, 1}, {0, 1, 2}}},
		{"two lines", of(nil, nil, []int{0}, []int{1}, []int{2}, []int{3}), []int{4, 5}, [][]int{{0}, {1}, {0, 2}, {1, 3}, {0, 2, 4}, {1, 3, 5}}},
		{"an elder head", of(nil, nil, []int{1}, []int{1}, []int{2, 3}), []int{0, 4}, [][]int{{0}, {1}, {1, 2}, {1, 3}, {1, 2, 3, 4}}},
	} {
		if e := Check(c.b); e != api.OK {
			t.Errorf("%s: Check(%v): error %d", c.what, c.b, e)
		}
		heads, e := Heads(c.b)
		wantList(t, c.what+": Heads", c.b, heads, e, c.heads)
		for k := range c.b.V {
			l, e := Behind(c.b, k)
			wantList(t, c.what+": Behind", c.b, l, e, c.behind[k])
		}
	}
}

// reach: which version comes from which, by steps of all lengths; it doesn't
// lean on parents being elder.
func reach(b api.Book) [][]bool {
	r := make([][]bool, len(b.V))
	for k, v := range b.V {
		r[k] = make([]bool, len(b.V))
		r[k][k] = true
		for _, p := range v.Parents {
			r[k][p] = true
		}
	}
	for by := range r {
		for k := range r {
			for i := range r {
				r[k][i] = r[k][i] || r[k][by] && r[by][i]
			}
		}
	}
	return r
}

// TestAgainstReach: the heads and what is behind each version of many books.
func TestAgainstReach(t *testing.T) {
	for _, b := range books() {
		r := reach(b)
		if e := Check(b); e != api.OK {
			t.Fatalf("Check(%v): error %d", b, e)
		}
		var heads []int
		for k := range b.V {
			children := 0
			for child := range b.V {
				if child != k && r[child][k] {
					children++
				}
			}
			if children == 0 {
				heads = append(heads, k)
			}
		}
		l, e := Heads(b)
		wantList(t, "Heads", b, l, e, heads)
		for k := range b.V {
			var behind []int
			for i := range b.V {
				if r[k][i] {
					behind = append(behind, i)
				}
			}
			l, e := Behind(b, k)
			wantList(t, "Behind", b, l, e, behind)
		}
	}
}

// TestAdd makes each book one by one.
func TestAdd(t *testing.T) {
	for _, b := range books() {
		for k := range b.V {
			wantAdd(t, "one by one", api.Book{V: b.V[:k]}, b.V[k], api.Book{V: b.V[:k+1]})
		}
	}
	p := plan(0)
	wantAdd(t, "to a nil one", api.Book{}, api.Version{P: p}, api.Book{V: []api.Version{{P: p}}})
	wantAdd(t, "to an empty one", api.Book{V: []api.Version{}}, api.Version{Parents: []int{}, P: p}, api.Book{V: []api.Version{{P: p}}})
}

func TestMany(t *testing.T) {
	for _, build := range []func(many int) api.Book{alone, line, dense} {
		for many := range api.MaxVersions + 1 {
			if e := Check(build(many)); e != api.OK {
				t.Errorf("Check of %d: error %d", many, e)
			}
		}
		wantError(t, "one too many", build(api.MaxVersions+1), api.ErrMany)
		wantAdd(t, "the last one", build(api.MaxVersions-1), build(api.MaxVersions).V[api.MaxVersions-1], build(api.MaxVersions))
		wantNotAdded(t, "no more", build(api.MaxVersions), api.Version{P: plan(1)}, api.ErrMany)
	}
	wantError(t, "very many", alone(100000), api.ErrMany)
	wantError(t, "many ahead of what they are", api.Book{V: make([]api.Version, api.MaxVersions+1)}, api.ErrMany)
	b := alone(api.MaxVersions + 1)
	b.V[0].Parents = []int{0}
	wantError(t, "many ahead of who", b, api.ErrMany)
	b.V[0].Parents = nil
	b.V[2].Parents = []int{1, 1}
	wantError(t, "many ahead of twice", b, api.ErrMany)
}

// TestParents: each number as a parent of each version, alone and behind
// others.
func TestParents(t *testing.T) {
	far := []int{math.MinInt, -api.MaxVersions, -2, -1, api.MaxVersions, api.MaxVersions + 1, math.MaxInt}
	for k := range api.MaxVersions {
		for _, p := range append(upTo(api.MaxVersions), far...) {
			b := line(api.MaxVersions)
			b.V[k].Parents = []int{p}
			elder := p >= 0 && p < k
			if e := Check(b); elder && e != api.OK {
				t.Errorf("parent %d of %d: error %d", p, k, e)
			}
			if !elder {
				wantError(t, "no elder one", b, api.ErrWho)
				b.V[k].Parents = append(upTo(k), p)
				wantError(t, "no elder one, behind all of them", b, api.ErrWho)
				b.V[k].Parents = append([]int{p}, upTo(k)...)
				wantError(t, "no elder one, ahead of all of them", b, api.ErrWho)
				continue
			}
			for ahead := range k {
				b.V[k].Parents = []int{ahead, p}
				if e := Check(b); ahead < p && e != api.OK {
					t.Errorf("parents %d, %d of %d: error %d", ahead, p, k, e)
				}
				if ahead >= p {
					wantError(t, "not rising", b, api.ErrTwice)
				}
			}
		}
	}
}

func TestPlans(t *testing.T) {
	for k := range api.MaxVersions {
		for _, p := range badPlans() {
			b := dense(api.MaxVersions)
			b.V[k].P = p
			wantError(t, "no plan", b, api.ErrRange)
		}
	}
}

// fault of a book: where it is told, and its error.
type fault struct {
	where []int // Version, parent (behind all: the plan), turn
	e     api.Errno
}

// first: Check's error by the faults of all kinds, each looked for alone.
func first(b api.Book) api.Errno {
	var l []fault
	for k, v := range b.V {
		for i, p := range v.Parents {
			if !slices.Contains(upTo(k), p) {
				l = append(l, fault{[]int{k, i, 0}, api.ErrWho})
			}
		}
	}
	for k, v := range b.V {
		for i := 1; i < len(v.Parents); i++ {
			if v.Parents[i-1] >= v.Parents[i] {
				l = append(l, fault{[]int{k, i, 1}, api.ErrTwice})
			}
		}
	}
	for k, v := range b.V {
		if v.P.Need < 1 {
			l = append(l, fault{[]int{k, len(v.Parents), 0}, api.ErrRange})
		}
	}
	if len(l) == 0 {
		return api.OK
	}
	return slices.MinFunc(l, func(a, b fault) int { return slices.Compare(a.where, b.where) }).e
}

// lists of up to so many numbers from -1 to below 4.
func lists(most int) [][]int {
	l := [][]int{nil}
	from := 0
	for range most {
		to := len(l)
		for _, shorter := range l[from:to] {
			for p := -1; p < 4; p++ {
				l = append(l, append(slices.Clone(shorter), p))
			}
		}
		from = to
	}
	return l
}

// TestFirstFault: books of few versions with faults of all kinds together.
func TestFirstFault(t *testing.T) {
	seen := map[api.Errno]int{}
	compare := func(b api.Book) {
		want := first(b)
		seen[want]++
		if e := Check(b); e != want {
			t.Fatalf("Check(%v): error %d, want %d", b, e, want)
		}
		last := len(b.V) - 1
		made, e := Add(api.Book{V: b.V[:last]}, b.V[last])
		if e != want || e == api.OK && !alike(made, b) || e != api.OK && made.V != nil {
			t.Fatalf("Add of the last one of %v: %v, error %d, want %d", b, made, e, want)
		}
	}
	plans := []api.Plan{plan(1), {}}
	for _, most := range []int{2, 3} {
		for _, one := range lists(most) {
			for _, p := range plans {
				for _, two := range lists(most) {
					for _, q := range plans {
						compare(api.Book{V: []api.Version{{P: plan(0)}, {Parents: one, P: p}, {Parents: two, P: q}}})
						compare(api.Book{V: []api.Version{{P: plan(0)}, {P: plan(2)}, {P: plan(3)}, {Parents: one, P: p}, {Parents: two, P: q}}})
					}
				}
			}
		}
	}
	for _, e := range []api.Errno{api.OK, api.ErrWho, api.ErrTwice, api.ErrRange} {
		if seen[e] < 20 {
			t.Errorf("there are too few of one kind: %v", seen)
		}
	}
}

func TestErrorsWrittenOut(t *testing.T) {
	good := func(k int, parents ...int) api.Version { return api.Version{Parents: parents, P: plan(k)} }
	none := func(parents ...int) api.Version { return api.Version{Parents: parents} }
	for _, c := range []struct {
		what string
		l    []api.Version
		want api.Errno
	}{
		{"itself, the first", []api.Version{good(0, 0)}, api.ErrWho},
		{"itself", []api.Version{good(0), good(1, 1)}, api.ErrWho},
		{"itself, behind an elder one", []api.Version{good(0), good(1, 0, 1)}, api.ErrWho},
		{"a younger one", []api.Version{good(0), good(1, 2), good(2)}, api.ErrWho},
		{"below 0", []api.Version{good(0), good(1, -1)}, api.ErrWho},
		{"twice", []api.Version{good(0), good(1, 0, 0)}, api.ErrTwice},
		{"falling", []api.Version{good(0), good(1), good(2, 1, 0)}, api.ErrTwice},
		{"twice, with another between", []api.Version{good(0), good(1), good(2, 0, 1, 0)}, api.ErrTwice},
		{"no plan", []api.Version{none()}, api.ErrRange},
		{"who ahead of twice, of one parent", []api.Version{good(0), good(1), good(2, 1, -1)}, api.ErrWho},
		{"who ahead of twice: twice itself", []api.Version{good(0), good(1, 1, 1)}, api.ErrWho},
		{"first parent first: twice, who", []api.Version{good(0), good(1, 0, 0, 9)}, api.ErrTwice},
		{"first parent first: who, twice", []api.Version{good(0), good(1, 9, 0, 0)}, api.ErrWho},
		{"parents ahead of the plan: who", []api.Version{none(0)}, api.ErrWho},
		{"parents ahead of the plan: twice", []api.Version{good(0), none(0, 0)}, api.ErrTwice},
		{"first version first: the plan, who", []api.Version{none(), good(1, 1)}, api.ErrRange},
		{"first version first: who, the plan", []api.Version{good(0, 0), none()}, api.ErrWho},
		{"first version first: twice, who", []api.Version{good(0), good(1, 0, 0), good(2, 2)}, api.ErrTwice},
		{"first version first: who, twice", []api.Version{good(0), good(1, 1), good(2, 1, 1)}, api.ErrWho},
		{"first version first: the plan, twice", []api.Version{good(0), none(0), good(2, 1, 1)}, api.ErrRange},
		{"first version first: twice, the plan", []api.Version{good(0), good(1, 0, 0), none()}, api.ErrTwice},
	} {
		wantError(t, c.what, api.Book{V: c.l}, c.want)
	}
}

func TestAddErrors(t *testing.T) {
	p := plan(3)
	full := dense(api.MaxVersions)
	family := of(nil, []int{0}, []int{0}, []int{1, 2}, []int{2})
	spoilt := dense(api.MaxVersions)
	spoilt.V[api.MaxVersions-1].Parents = []int{3, 3}
	for _, c := range []struct {
		what string
		b    api.Book
		v    api.Version
		want api.Errno
	}{
		{"itself", family, api.Version{Parents: []int{5}, P: p}, api.ErrWho},
		{"far above", family, api.Version{Parents: []int{math.MaxInt}, P: p}, api.ErrWho},
		{"below 0", family, api.Version{Parents: []int{-1}, P: p}, api.ErrWho},
		{"far below 0", family, api.Version{Parents: []int{math.MinInt}, P: p}, api.ErrWho},
		{"of an empty book", api.Book{}, api.Version{Parents: []int{0}, P: p}, api.ErrWho},
		{"falling", family, api.Version{Parents: []int{2, 1}, P: p}, api.ErrTwice},
		{"twice", family, api.Version{Parents: []int{4, 4}, P: p}, api.ErrTwice},
		{"very many parents", family, api.Version{Parents: make([]int, 100000), P: p}, api.ErrTwice},
		{"no plan", family, api.Version{Parents: []int{4}}, api.ErrRange},
		{"no plan, of an empty book", api.Book{}, api.Version{}, api.ErrRange},
		{"who ahead of no plan", family, api.Version{Parents: []int{5}}, api.ErrWho},
		{"twice ahead of no plan", family, api.Version{Parents: []int{4, 4}}, api.ErrTwice},
		{"full ahead of who", full, api.Version{Parents: []int{-1}, P: p}, api.ErrMany},
		{"full ahead of twice", full, api.Version{Parents: []int{1, 1}, P: p}, api.ErrMany},
		{"full ahead of no plan", full, api.Version{}, api.ErrMany},
		{"Check ahead of full", spoilt, api.Version{P: p}, api.ErrTwice},
		{"Check ahead of who", api.Book{V: []api.Version{{}}}, api.Version{Parents: []int{1}, P: p}, api.ErrRange},
		{"Check ahead of no plan", of([]int{0}), api.Version{}, api.ErrWho},
		{"Check ahead of all: many", alone(api.MaxVersions + 1), api.Version{Parents: []int{-1}}, api.ErrMany},
	} {
		wantNotAdded(t, c.what, c.b, c.v, c.want)
	}
	for _, bad := range badPlans() {
		wantNotAdded(t, "no plan", family, api.Version{Parents: []int{3, 4}, P: bad}, api.ErrRange)
	}
}

func TestNoSuchVersion(t *testing.T) {
	for many := range api.MaxVersions + 1 {
		b := line(many)
		for _, k := range []int{math.MinInt, -api.MaxVersions, -1, many, many + 1, api.MaxVersions, math.MaxInt} {
			if l, e := Behind(b, k); e != api.ErrWho || l != nil {
				t.Errorf("Behind(%v, %d): %v, error %d", b, k, l, e)
			}
		}
	}
	for _, k := range []int{-1, 0, 1} {
		if l, e := Behind(api.Book{V: []api.Version{}}, k); e != api.ErrWho || l != nil {
			t.Errorf("Behind of an empty book, %d: %v, error %d", k, l, e)
		}
	}
}

// unlike: books and others, of which each differs from the first one in one
// field, or in what is there.
func unlike() []api.Book {
	base := func() api.Book {
		return api.Book{V: []api.Version{{P: plan(0)}, {Parents: []int{0}, P: plan(1)}, {Parents: []int{0, 1}, P: plan(2)}}}
	}
	l := []api.Book{base()}
	for k := range base().V {
		for _, change := range []func(v *api.Version){
			func(v *api.Version) { v.P.Need++ },
			func(v *api.Version) { v.P.Need = math.MinInt },
			func(v *api.Version) { v.P.Of++ },
			func(v *api.Version) { v.P.Of = -1 },
			func(v *api.Version) { v.P.Size++ },
			func(v *api.Version) { v.P.Size = math.MaxInt },
			func(v *api.Version) { v.P = api.Plan{} },
			func(v *api.Version) { v.Parents = append(v.Parents, 7) },
			func(v *api.Version) { v.Parents = append(v.Parents, -1) },
			func(v *api.Version) { v.Parents = append([]int{-2}, v.Parents...) },
			func(v *api.Version) { v.Parents = []int{5} },
		} {
			b := base()
			change(&b.V[k])
			l = append(l, b)
		}
	}
	change := func(how func(b *api.Book)) {
		b := base()
		how(&b)
		l = append(l, b)
	}
	change(func(b *api.Book) { b.V = nil })
	change(func(b *api.Book) { b.V = b.V[:2] })
	change(func(b *api.Book) { b.V = b.V[1:] })
	change(func(b *api.Book) { b.V = append(b.V, api.Version{}) })
	change(func(b *api.Book) { b.V = append(b.V, b.V[2]) })
	change(func(b *api.Book) { b.V[1], b.V[2] = b.V[2], b.V[1] })
	change(func(b *api.Book) { b.V[1].Parents = nil })
	change(func(b *api.Book) { b.V[2].Parents = nil })
	change(func(b *api.Book) { b.V[2].Parents = []int{0} })
	change(func(b *api.Book) { b.V[2].Parents = []int{1} })
	change(func(b *api.Book) { b.V[2].Parents = []int{1, 0} })
	change(func(b *api.Book) { b.V[2].Parents = []int{0, 0} })
	change(func(b *api.Book) { b.V[1].Parents, b.V[2].Parents = b.V[2].Parents, b.V[1].Parents })
	return append(l, alone(api.MaxVersions), alone(api.MaxVersions+1), alone(2*api.MaxVersions), api.Book{V: make([]api.Version, 3)})
}

func TestSame(t *testing.T) {
	l := unlike()
	for i, a := range l {
		for j, b := range l {
			if Same(a, copied(b)) != (i == j) {
				t.Errorf("Same(%v, %v) isn't %v", a, b, i == j)
			}
		}
	}
	for _, c := range []struct{ a, b api.Book }{
		{api.Book{}, api.Book{V: []api.Version{}}},
		{of(nil), of([]int{})},
		{of(nil, []int{}), of([]int{}, nil)},
		{api.Book{V: []api.Version{{}}}, api.Book{V: []api.Version{{Parents: []int{}}}}},
	} {
		if !Same(c.a, c.b) || !Same(c.b, c.a) || !Same(c.a, c.a) {
			t.Errorf("Same(%#v, %#v) isn't true", c.a, c.b)
		}
	}
	for _, b := range books() {
		if !Same(b, copied(b)) {
			t.Fatalf("Same(%v) of a copy isn't true", b)
		}
		if len(b.V) > 0 && (Same(b, api.Book{V: b.V[1:]}) || Same(api.Book{V: b.V[:len(b.V)-1]}, b)) {
			t.Fatalf("Same(%v) of less isn't false", b)
		}
	}
}

const mark = 77

// roomy: l with spare room behind it that is marked.
func roomy(l []int) []int { return append(slices.Clone(l), mark, mark)[:len(l)] }

// roomyBook: b with marked spare room behind each list of it.
func roomyBook(b api.Book) api.Book {
	c := copied(b)
	for k, v := range c.V {
		c.V[k].Parents = roomy(v.Parents)
	}
	spare := api.Version{Parents: roomy([]int{mark}), P: api.Plan{Need: mark}}
	c.V = append(c.V, spare, api.Version{P: api.Plan{Of: mark}})[:len(b.V)]
	return c
}

// wipe writes over all of l, and the spare room behind it.
func wipe(l []int) {
	l = l[:cap(l)]
	for i := range l {
		l[i] = -mark
	}
}

func wipeBook(b api.Book) {
	l := b.V[:cap(b.V)]
	for k := range l {
		wipe(l[k].Parents)
		l[k] = api.Version{}
	}
}

// guard answers whether b is, with all its spare room, as it was.
func guard(b api.Book) func() bool {
	was := everything(b)
	return func() bool { return reflect.DeepEqual(everything(b), was) }
}

func TestListsAreOnlyRead(t *testing.T) {
	for _, plain := range books() {
		b := roomyBook(plain)
		untouched := guard(b)
		if Check(b) != api.OK || !Same(b, plain) || !Same(plain, b) || !untouched() {
			t.Fatalf("%v was changed by Check or Same", plain)
		}
		heads, _ := Heads(b)
		again, _ := Heads(b)
		wipe(heads)
		if third, e := Heads(b); e != api.OK || !slices.Equal(third, again) || !untouched() {
			t.Fatalf("%v was changed by Heads, or its answers share memory", plain)
		}
		for k := range b.V {
			l, _ := Behind(b, k)
			again, _ := Behind(b, k)
			wipe(l)
			if third, e := Behind(b, k); e != api.OK || !slices.Equal(third, again) || !untouched() {
				t.Fatalf("%v was changed by Behind of %d, or its answers share memory", plain, k)
			}
		}
	}
}

// apart: writing over one list of b, and the room behind it, changes no other.
func apart(b api.Book) bool {
	want := copied(b)
	for k := range b.V {
		wipe(b.V[k].Parents)
		want.V[k].Parents = slices.Clone(b.V[k].Parents)
		if !alike(b, want) {
			return false
		}
	}
	return true
}

func TestAddIsNewMemory(t *testing.T) {
	for _, plain := range books() {
		for k := range plain.V {
			b := roomyBook(api.Book{V: plain.V[:k]})
			v := roomyBook(api.Book{V: plain.V[k : k+1]})
			untouched, vUntouched := guard(b), guard(v)
			want := api.Book{V: plain.V[:k+1]}
			made, e := Add(b, v.V[0])
			if e != api.OK || !alike(made, want) || !untouched() || !vUntouched() {
				t.Fatalf("Add of the last of %v: %v, error %d, or what was handed in is changed", want, made, e)
			}
			other, _ := Add(b, v.V[0])
			wipeBook(other)
			if !alike(made, want) || !untouched() || !vUntouched() {
				t.Fatalf("Add of the last of %v: what it answers shares memory", want)
			}
			wipeBook(b)
			wipeBook(v)
			if !alike(made, want) || !apart(made) {
				t.Fatalf("Add of the last of %v: what it answers shares memory", want)
			}
		}
	}
}

// TestAddOfOneMemory: the lists that are handed in share memory with each
// other, those that are answered don't.
func TestAddOfOneMemory(t *testing.T) {
	elder := upTo(api.MaxVersions)
	for many := range api.MaxVersions {
		b := alone(many)
		for k := range b.V {
			b.V[k].Parents = elder[:k]
		}
		made, e := Add(b, api.Version{Parents: elder[:many], P: plan(many)})
		if e != api.OK || !alike(made, dense(many+1)) {
			t.Fatalf("Add to %v: %v, error %d", b, made, e)
		}
		if !apart(made) || !slices.Equal(elder, upTo(api.MaxVersions)) {
			t.Fatalf("Add to %v: what it answers shares memory", b)
		}
	}
}

// TestErrorsOnlyRead: nor is anything changed where there is an error.
func TestErrorsOnlyRead(t *testing.T) {
	spoilt := line(4)
	spoilt.V[2].Parents = []int{1, 0}
	for _, plain := range []api.Book{{}, line(4), spoilt, dense(api.MaxVersions), alone(api.MaxVersions + 1), {V: make([]api.Version, 2)}} {
		for _, bad := range []api.Version{{}, {Parents: []int{2, 1, 9}}, {Parents: []int{1, 0}, P: plan(0)}, {Parents: []int{-1}, P: plan(0)}} {
			b := roomyBook(plain)
			v := roomyBook(api.Book{V: []api.Version{bad}})
			untouched, vUntouched := guard(b), guard(v)
			_, added := Add(b, v.V[0])
			_, behind := Behind(b, len(b.V))
			if added == api.OK || behind == api.OK || !untouched() || !vUntouched() {
				t.Errorf("Add(%v, %v): error %d, Behind: error %d, or what was handed in is changed", plain, bad, added, behind)
			}
			if _, e := Heads(b); e != Check(b) || !untouched() {
				t.Errorf("Heads(%v): error %d, or what was handed in is changed", plain, e)
			}
		}
	}
}
