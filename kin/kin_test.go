package kin

import (
	"math"
	"reflect"
	"slices"
	"testing"

	"cellarman/api"
)

var plan = api.Plan{Need: 2, Of: 3, Size: 4}

// of: a book of versions with these parents.
func of(parents ...[]int) api.Book {
	var b api.Book
	for _, l := range parents {
		b.V = append(b.V, api.Version{Parents: l, P: plan})
	}
	return b
}

// chosen: the book of so many versions whose version k has elder one i as a
// parent just if ask says so.
func chosen(many int, ask func(k, i int) bool) api.Book {
	b := of(make([][]int, many)...)
	for k := range b.V {
		for i := range k {
			if ask(k, i) {
				b.V[k].Parents = append(b.V[k].Parents, i)
			}
		}
	}
	return b
}

// alone: none has a parent.
func alone(many int) api.Book { return chosen(many, func(k, i int) bool { return false }) }

// line: each is of the one ahead.
func line(many int) api.Book { return chosen(many, func(k, i int) bool { return i == k-1 }) }

// dense: each is of all elder ones.
func dense(many int) api.Book { return chosen(many, func(k, i int) bool { return true }) }

// ladder: each is of the two ahead of its own pair, so that the two of a pair
// come together at both of the pair ahead.
func ladder(many int) api.Book { return chosen(many, func(k, i int) bool { return i/2 == k/2-1 }) }

// rule gives number after number that look as if they had no order, the same
// ones in each run.
func rule() func(below int) int {
	state := uint32(88172645)
	return func(below int) int {
		state ^= state << 13
		state ^= state >> 17
		state ^= state << 5
		return int(state>>8) % below
	}
}

// books: each of up to five versions, and greater ones of all kinds.
func books() []api.Book {
	var l []api.Book
	for many := range 6 {
		for number := range 1 << (many * (many - 1) / 2) {
			bits := number
			l = append(l, chosen(many, func(k, i int) bool {
				bit := bits & 1
				bits >>= 1
				return bit == 1
			}))
		}
	}
	next := rule()
	for many := 6; many <= api.MaxVersions; many++ {
		l = append(l, alone(many), line(many), dense(many), ladder(many))
		for odds := 2; odds < 8; odds++ {
			for range 10 {
				l = append(l, chosen(many, func(k, i int) bool { return next(odds) == 0 }))
			}
		}
		// Two layers, so that there are many ones to come together at.
		for range 10 {
			l = append(l, chosen(many, func(k, i int) bool { return i < many/2 && k >= many/2 && next(5) > 0 }))
		}
	}
	return l
}

// want: where i and j come together, and whether they are apart.
func want(t *testing.T, what string, b api.Book, i, j int, common []int, apart bool) {
	t.Helper()
	if l, e := Common(b, i, j); e != api.OK || !slices.Equal(l, common) {
		t.Fatalf("%s: Common(%v, %d, %d): %v, error %d, want %v", what, b, i, j, l, e, common)
	}
	if is, e := Apart(b, i, j); e != api.OK || is != apart {
		t.Fatalf("%s: Apart(%v, %d, %d): %v, error %d, want %v", what, b, i, j, is, e, apart)
	}
}

// wantError: this error, and nothing beside it.
func wantError(t *testing.T, what string, b api.Book, i, j int, e api.Errno) {
	t.Helper()
	if l, got := Common(b, i, j); got != e || l != nil {
		t.Errorf("%s: Common(%v, %d, %d): %v, error %d, want error %d", what, b, i, j, l, got, e)
	}
	if is, got := Apart(b, i, j); got != e || is {
		t.Errorf("%s: Apart(%v, %d, %d): %v, error %d, want error %d", what, b, i, j, is, got, e)
	}
}

func TestWrittenOut(t *testing.T) {
	family := of(nil, []int{0}, []int{0}, []int{1, 2}, []int{2})
	crossed := of(nil, []int{0}, []int{0}, []int{1, 2}, []int{1, 2}, nil, []int{3, 5}, []int{4, 5})
	short := of(nil, []int{0}, []int{1}, []int{0, 2}, []int{0, 1})
	for _, c := range []struct {
		what   string
		b      api.Book
		i, j   int
		common []int
		apart  bool
	}{
		{"the only one", of(nil), 0, 0, []int{0}, false},
		{"an empty list of parents", of([]int{}, []int{}), 0, 1, nil, true},
		{"none has a parent", of(nil, nil, nil), 0, 2, nil, true},
		{"one line: the next", of(nil, []int{0}, []int{1}, []int{2}), 2, 3, []int{2}, false},
		{"one line: both ends", of(nil, []int{0}, []int{1}, []int{2}), 0, 3, []int{0}, false},
		{"one line: inside", of(nil, []int{0}, []int{1}, []int{2}), 1, 2, []int{1}, false},
		{"two lines", of(nil, nil, []int{0}, []int{1}, []int{2}, []int{3}), 4, 5, nil, true},
		{"two lines, of which one is met", of(nil, nil, []int{0}, []int{1}, []int{2, 3}), 3, 4, []int{3}, false},
		{"children of one", of(nil, []int{0}, []int{0}), 1, 2, []int{0}, true},
		{"parents of one", of(nil, nil, []int{0, 1}), 0, 1, nil, true},
		{"itself, which has parents", family, 3, 3, []int{3}, false},
		{"the elder one goes along", family, 3, 4, []int{2}, true},
		{"children of the first", family, 1, 2, []int{0}, true},
		{"a parent", family, 1, 3, []int{1}, false},
		{"a parent's parent", family, 0, 4, []int{0}, false},
		{"a parent's other child", family, 1, 4, []int{0}, true},
		{"at two", crossed, 3, 4, []int{1, 2}, true},
		{"at three", crossed, 6, 7, []int{1, 2, 5}, true},
		{"at two of those of a child", crossed, 3, 7, []int{1, 2}, true},
		{"at one that has nothing behind it", crossed, 5, 7, []int{5}, false},
		{"nothing in common with what others meet", crossed, 4, 5, nil, true},
		{"a parent that another parent comes from", short, 3, 4, []int{1}, true},
		{"itself, beside such a parent", short, 3, 3, []int{3}, false},
		{"that other parent", short, 3, 2, []int{2}, false},
		{"the way between is met by only one", of(nil, []int{0}, []int{1}, []int{2}, []int{0}), 3, 4, []int{0}, true},
		{"the way between has nothing that isn't met", of(nil, []int{0}, []int{1}, []int{2}, []int{0, 2}), 3, 4, []int{2}, true},
		{"further on by two steps", of(nil, []int{0}, []int{1}, []int{0, 2}, []int{0, 2}), 3, 4, []int{2}, true},
	} {
		want(t, c.what, c.b, c.i, c.j, c.common, c.apart)
		want(t, c.what+", from the other side", c.b, c.j, c.i, c.common, c.apart)
	}
}

// from: is version k version n, or of a parent that is or comes from it?
func from(b api.Book, k, n int) bool {
	return k == n || slices.ContainsFunc(b.V[k].Parents, func(p int) bool { return from(b, p, n) })
}

// reach: which version comes from which.
func reach(b api.Book) [][]bool {
	r := make([][]bool, len(b.V))
	for k := range r {
		for n := range r {
			r[k] = append(r[k], from(b, k, n))
		}
	}
	return r
}

// last: the versions that both i and j reach, and that of all such versions
// one alone reaches: itself.
func last(r [][]bool, i, j int) []int {
	var l []int
	for k := range r {
		many := 0
		for n := range r {
			if r[i][n] && r[j][n] && r[n][k] {
				many++
			}
		}
		if many == 1 && r[i][k] && r[j][k] {
			l = append(l, k)
		}
	}
	return l
}

// TestAgainstReach: each two versions of many books.
func TestAgainstReach(t *testing.T) {
	seen := map[int]int{}
	for _, b := range books() {
		r := reach(b)
		for i := range b.V {
			for j := range b.V {
				common := last(r, i, j)
				seen[len(common)]++
				want(t, "by reach", b, i, j, common, !r[i][j] && !r[j][i])
			}
		}
	}
	for many := range 5 {
		if seen[many] < 20 {
			t.Errorf("there are too few of one kind: %v", seen)
		}
	}
}

// TestOneComesFromTheOther: the elder one is where they come together, and
// one and itself come together there.
func TestOneComesFromTheOther(t *testing.T) {
	for _, b := range books() {
		r := reach(b)
		for i := range b.V {
			for j := range b.V {
				if r[i][j] {
					want(t, "one of the other", b, i, j, []int{j}, false)
					want(t, "one of the other, from the other side", b, j, i, []int{j}, false)
				}
			}
		}
	}
}

func TestAsManyAsMayBe(t *testing.T) {
	top := api.MaxVersions - 1
	for i := range api.MaxVersions {
		want(t, "alone, itself", alone(api.MaxVersions), i, i, []int{i}, false)
		for j := range i {
			want(t, "alone", alone(api.MaxVersions), i, j, nil, true)
			want(t, "line", line(api.MaxVersions), i, j, []int{j}, false)
			want(t, "dense", dense(api.MaxVersions), j, i, []int{j}, false)
		}
	}
	want(t, "ladder", ladder(api.MaxVersions), top, top-1, []int{top - 3, top - 2}, true)
	wide := chosen(api.MaxVersions, func(k, i int) bool { return k >= top-1 && i < top-1 })
	want(t, "all others", wide, top-1, top, []int{0, 1, 2, 3, 4, 5, 6, 7, 8, 9}, true)
}

// noVersions of a book of so many.
func noVersions(many int) []int {
	return []int{math.MinInt, -api.MaxVersions, -1, many, many + 1, many + api.MaxVersions, math.MaxInt}
}

func TestNoSuchVersion(t *testing.T) {
	for many := range api.MaxVersions + 1 {
		for _, b := range []api.Book{alone(many), line(many), dense(many)} {
			for _, no := range noVersions(many) {
				for k := range many {
					wantError(t, "no such i", b, no, k, api.ErrWho)
					wantError(t, "no such j", b, k, no, api.ErrWho)
				}
				for _, other := range noVersions(many) {
					wantError(t, "neither", b, no, other, api.ErrWho)
				}
			}
		}
	}
	for _, b := range []api.Book{{}, {V: []api.Version{}}} {
		wantError(t, "an empty book", b, 0, 0, api.ErrWho)
	}
}

// TestNoBook: Check's error is ahead of that of i and j, whichever they are.
func TestNoBook(t *testing.T) {
	for _, c := range []struct {
		what string
		b    api.Book
		e    api.Errno
	}{
		{"one too many", line(api.MaxVersions + 1), api.ErrMany},
		{"very many", alone(10000), api.ErrMany},
		{"many ahead of what they are", api.Book{V: make([]api.Version, api.MaxVersions+1)}, api.ErrMany},
		{"itself", of(nil, []int{0}, []int{2}), api.ErrWho},
		{"a younger one", of([]int{1}, nil, nil), api.ErrWho},
		{"below 0", of(nil, []int{-1}, nil), api.ErrWho},
		{"far above", of(nil, nil, []int{math.MaxInt}), api.ErrWho},
		{"twice", of(nil, []int{0}, []int{1, 1}), api.ErrTwice},
		{"falling", of(nil, nil, []int{1, 0}), api.ErrTwice},
		{"no plan", api.Book{V: []api.Version{{P: plan}, {P: plan}, {}}}, api.ErrRange},
		{"too many are enough", api.Book{V: []api.Version{{P: api.Plan{Need: api.MaxNeed + 1, Of: api.MaxShares, Size: 1}}, {P: plan}}}, api.ErrRange},
		{"fewer than are enough", api.Book{V: []api.Version{{P: plan}, {P: api.Plan{Need: 2, Of: 1, Size: 1}}}}, api.ErrRange},
		{"too long", api.Book{V: []api.Version{{P: plan}, {P: api.Plan{Need: 2, Of: 3, Size: api.MaxData + 1}}}}, api.ErrRange},
		{"who ahead of twice", of(nil, []int{1}, []int{0, 0}), api.ErrWho},
		{"twice ahead of who", of(nil, []int{0, 0}, []int{2}), api.ErrTwice},
		{"no plan ahead of who", api.Book{V: []api.Version{{P: plan}, {}, {Parents: []int{2}, P: plan}}}, api.ErrRange},
		{"who ahead of no plan", api.Book{V: []api.Version{{P: plan}, {Parents: []int{1}}}}, api.ErrWho},
	} {
		top := len(c.b.V) - 1
		for _, i := range append(noVersions(len(c.b.V)), 0, 1, top) {
			for _, j := range append(noVersions(len(c.b.V)), 0, 1, top) {
				wantError(t, c.what, c.b, i, j, c.e)
			}
		}
	}
}

const mark = 77

// roomyBook: b, copied, with marked spare room behind each list of it.
func roomyBook(b api.Book) api.Book {
	c := api.Book{V: slices.Clone(b.V)}
	for k, v := range c.V {
		c.V[k].Parents = append(slices.Clone(v.Parents), mark, mark)[:len(v.Parents)]
	}
	c.V = append(c.V, api.Version{Parents: []int{mark}, P: api.Plan{Need: mark}})[:len(b.V)]
	return c
}

// everything: a deep copy of b, with the spare room behind each list as a part
// of the list.
func everything(b api.Book) api.Book {
	c := api.Book{V: slices.Clone(b.V[:cap(b.V)])}
	for k, v := range c.V {
		c.V[k].Parents = slices.Clone(v.Parents[:cap(v.Parents)])
	}
	return c
}

// guard answers whether b is, with all its spare room, as it was.
func guard(b api.Book) func() bool {
	was := everything(b)
	return func() bool { return reflect.DeepEqual(everything(b), was) }
}

// wipe writes over all of l, and the spare room behind it.
func wipe(l []int) {
	l = l[:cap(l)]
	for i := range l {
		l[i] = -mark
	}
}

func TestBooksAreOnlyRead(t *testing.T) {
	for _, plain := range books() {
		b := roomyBook(plain)
		untouched := guard(b)
		for i := range b.V {
			for j := range b.V {
				l, _ := Common(b, i, j)
				again, _ := Common(b, i, j)
				wipe(l)
				third, e := Common(b, i, j)
				if e != api.OK || !slices.Equal(third, again) {
					t.Fatalf("%v: answers of Common of %d, %d share memory", plain, i, j)
				}
				_, e = Apart(b, i, j)
				if e != api.OK {
					t.Fatalf("%v: Apart of %d, %d: error %d", plain, i, j, e)
				}
			}
		}
		if !untouched() {
			t.Fatalf("%v was changed", plain)
		}
	}
}

// TestErrorsOnlyRead: nor is anything changed where there is an error.
func TestErrorsOnlyRead(t *testing.T) {
	for _, plain := range []api.Book{{}, line(4), of(nil, []int{0}, []int{1, 0}), of(nil, []int{5}), alone(api.MaxVersions + 1), {V: make([]api.Version, 2)}} {
		b := roomyBook(plain)
		untouched := guard(b)
		_, common := Common(b, 0, len(b.V))
		_, apart := Apart(b, len(b.V), 0)
		if common == api.OK || apart != common || !untouched() {
			t.Errorf("%v: Common: error %d, Apart: error %d, or it was changed", plain, common, apart)
		}
	}
}
