package vote

import (
	"math"
	"slices"
	"testing"

	"cellarman/api"
	"cellarman/share"
)

// further: the value at place of the curve with these values at 0, 1 and so
// on, by its differences: the one of the order of their count is always 0.
// It leans on nothing of the program.
func further(row []int, place int) int {
	factors := map[int][]int{1: {1}, 2: {2, -1}, 3: {3, -3, 1}, 4: {4, -6, 4, -1}}[len(row)]
	l := slices.Clone(row)
	for len(l) <= place {
		v := 0
		for j, f := range factors {
			v += f * l[len(l)-1-j]
		}
		l = append(l, (v%api.Prime+api.Prime)%api.Prime)
	}
	return l[place]
}

// shares of data, by further.
func shares(p api.Plan, data []int) []api.Share {
	whole := slices.Clone(data)
	for len(whole)%p.Need != 0 {
		whole = append(whole, 0)
	}
	var l []api.Share
	for k := range p.Of {
		s := api.Share{N: k}
		for row := range slices.Chunk(whole, p.Need) {
			s.Values = append(s.Values, further(row, k))
		}
		l = append(l, s)
	}
	return l
}

// content of n numbers from a rule, so that each is something else.
func content(n, first, step int) []int {
	l := make([]int, n)
	for k := range l {
		l[k] = (first + k*step + k*k) % api.Prime
	}
	return l
}

// rule gives number after number that look as if they had no order, the same
// ones in each run.
func rule() func(below int) int {
	state := uint32(2463534242)
	return func(below int) int {
		state ^= state << 13
		state ^= state >> 17
		state ^= state << 5
		return int(state>>8) % below
	}
}

func mix(l []api.Share, next func(below int) int) {
	for i := len(l) - 1; i > 0; i-- {
		j := next(i + 1)
		l[i], l[j] = l[j], l[i]
	}
}

func clone(l []api.Share) []api.Share {
	var c []api.Share
	for _, s := range l {
		c = append(c, api.Share{N: s.N, Values: slices.Clone(s.Values)})
	}
	return c
}

func like(a, b api.Share) bool { return a.N == b.N && slices.Equal(a.Values, b.Values) }

func sameShares(a, b []api.Share) bool { return slices.EqualFunc(a, b, like) }

// turn share s by amount in row r.
func turn(s api.Share, r, amount int) {
	s.Values[r] = (s.Values[r] + amount) % api.Prime
}

// want: Most finds data, and just these others.
func want(t *testing.T, what string, p api.Plan, l []api.Share, data, others []int) {
	t.Helper()
	gotData, gotOthers, e := Most(p, l)
	if e != api.OK || !slices.Equal(gotData, data) || !slices.Equal(gotOthers, others) {
		t.Fatalf("%s: Most(%v, %v): %v, others %v, error %d, want %v, others %v", what, p, l, gotData, gotOthers, e, data, others)
	}
}

// wantNone: Most has this error, and answers nothing beside it.
func wantNone(t *testing.T, what string, p api.Plan, l []api.Share, err api.Errno) {
	t.Helper()
	if data, others, e := Most(p, l); e != err || len(data) != 0 || len(others) != 0 {
		t.Fatalf("%s: Most(%v, %v): %v, others %v, error %d, want error %d", what, p, l, data, others, e, err)
	}
}

// plans with each Need and Of, and sizes of a row or several, whole and not.
func plans() []api.Plan {
	var l []api.Plan
	for need := 1; need <= api.MaxNeed; need++ {
		for of := need; of <= api.MaxShares; of++ {
			for _, size := range []int{1, need, need + 1, api.MaxData} {
				l = append(l, api.Plan{Need: need, Of: of, Size: size})
			}
		}
	}
	return l
}

// pick: of l what stands at the places whose bit choice has.
func pick(l []api.Share, choice int) []api.Share {
	var c []api.Share
	for k, s := range l {
		if choice>>k&1 == 1 {
			c = append(c, s)
		}
	}
	return clone(c)
}

func TestWrittenOut(t *testing.T) {
	two := api.Plan{Need: 2, Of: 6, Size: 2}
	half := api.Plan{Need: 2, Of: 4, Size: 1}
	one := api.Plan{Need: 1, Of: 5, Size: 2}
	at := func(n int, values ...int) api.Share { return api.Share{N: n, Values: values} }
	for _, c := range []struct {
		what         string
		p            api.Plan
		l            []api.Share
		data, others []int
	}{
		{"none is bent", two, []api.Share{at(0, 5), at(1, 7), at(2, 9), at(3, 11)}, []int{5, 7}, nil},
		{"just Need", two, []api.Share{at(2, 9), at(0, 5)}, []int{5, 7}, nil},
		{"one of six is bent", two, []api.Share{at(0, 5), at(1, 8), at(2, 9), at(3, 11), at(4, 13), at(5, 15)}, []int{5, 7}, []int{1}},
		{"two of six are bent", two, []api.Share{at(0, 5), at(1, 8), at(2, 9), at(3, 11), at(4, 1), at(5, 15)}, []int{5, 7}, []int{1, 4}},
		{"the first two are bent", two, []api.Share{at(0, 6), at(1, 8), at(2, 9), at(3, 11), at(4, 13), at(5, 15)}, []int{5, 7}, []int{0, 1}},
		{"rising, though they come falling", two, []api.Share{at(5, 0), at(4, 13), at(3, 11), at(2, 9), at(1, 8), at(0, 5)}, []int{5, 7}, []int{1, 5}},
		{"like ones: 0 and 1 first", two, []api.Share{at(0, 5), at(1, 8), at(2, 9)}, []int{5, 8}, []int{2}},
		{"like ones: 0 and 2 first", two, []api.Share{at(0, 5), at(2, 9), at(1, 8)}, []int{5, 7}, []int{1}},
		{"like ones: 2 and 1 first", two, []api.Share{at(2, 9), at(1, 8), at(0, 5)}, []int{7, 8}, []int{0}},
		{"like ones: two by two", two, []api.Share{at(0, 5), at(2, 1), at(1, 7), at(3, 1)}, []int{5, 3}, []int{1, 3}},
		{"three later ones ahead of two first ones", two, []api.Share{at(0, 1), at(1, 1), at(3, 11), at(2, 9), at(4, 13)}, []int{5, 7}, []int{0, 1}},
		{"most are bent alike", two, []api.Share{at(0, 5), at(1, 7), at(2, 3), at(3, 3), at(4, 3)}, []int{3, 3}, []int{0, 1}},
		{"something behind Size, of the first ones", half, []api.Share{at(1, 3), at(0, 4), at(2, 27)}, []int{4}, []int{1}},
		{"nothing but one choice makes something", half, []api.Share{at(1, 9), at(3, 2), at(0, 4), at(2, 27)}, []int{4}, []int{1, 3}},
		{"all but one fit, behind Size there is something", half, []api.Share{at(0, 1), at(3, 1), at(2, 1), at(1, 0)}, []int{1}, []int{2, 3}},
		{"Need 1: most of like values", one, []api.Share{at(4, 1, 2), at(0, 3, 4), at(2, 5, 6), at(3, 3, 4), at(1, 1, 4)}, []int{3, 4}, []int{1, 2, 4}},
		{"Need 1: all are something else", one, []api.Share{at(4, 1, 2), at(3, 3, 4), at(0, 5, 6)}, []int{1, 2}, []int{0, 3}},
		{"Need 1: two by two", one, []api.Share{at(3, 9, 9), at(0, 5, 6), at(4, 5, 6), at(1, 9, 9)}, []int{9, 9}, []int{0, 4}},
		{"Need 1: one", one, []api.Share{at(3, 9, 8)}, []int{9, 8}, nil},
	} {
		want(t, c.what, c.p, c.l, c.data, c.others)
	}
}

// model of Most, for contents of few numbers: it goes through all contents that
// may be, not through the shares. A content is made by some Need of the shares
// just if Need or more are of it, first by the first Need of these.
func model(p api.Plan, l []api.Share) (data, others []int, e api.Errno) {
	var best []int
	many := 1
	for range p.Size {
		many *= api.Prime
	}
	for number := range many {
		c := make([]int, p.Size)
		for k, rest := 0, number; k < p.Size; k, rest = k+1, rest/api.Prime {
			c[k] = rest % api.Prime
		}
		all := shares(p, c)
		var places, against []int
		for i, s := range l {
			if like(s, all[s.N]) {
				places = append(places, i)
			} else {
				against = append(against, s.N)
			}
		}
		if len(places) < p.Need || len(places) < len(best) {
			continue
		}
		if len(places) > len(best) || slices.Compare(places[:p.Need], best[:p.Need]) < 0 {
			best, data, others = places, c, against
		}
	}
	if best == nil {
		return nil, nil, api.ErrTorn
	}
	slices.Sort(others)
	return data, others, api.OK
}

// mixed: shares of two contents and some of none, in whatever order.
func mixed(p api.Plan, next func(below int) int) []api.Share {
	a := shares(p, content(p.Size, next(api.Prime), next(api.Prime)))
	b := shares(p, content(p.Size, next(api.Prime), next(api.Prime)))
	var l []api.Share
	for k := range p.Of {
		switch next(5) {
		case 0:
			turn(a[k], next(len(a[k].Values)), 1+next(api.Prime-1))
			l = append(l, a[k])
		case 1, 2:
			l = append(l, b[k])
		default:
			l = append(l, a[k])
		}
	}
	mix(l, next)
	return l[:p.Need+next(p.Of-p.Need+1)]
}

func TestAgainstAllContents(t *testing.T) {
	next := rule()
	seen := map[api.Errno]int{}
	compare := func(p api.Plan) {
		l := mixed(p, next)
		data, others, e := model(p, l)
		seen[e]++
		if e == api.OK {
			want(t, "all contents", p, l, data, others)
		} else {
			wantNone(t, "all contents", p, l, e)
		}
	}
	for need := 1; need <= api.MaxNeed; need++ {
		for of := need; of <= api.MaxShares; of++ {
			for range 16 {
				compare(api.Plan{Need: need, Of: of, Size: 1})
				compare(api.Plan{Need: need, Of: of, Size: 2})
			}
		}
	}
	for of := 4; of <= api.MaxShares; of++ { // Two rows, the last one not whole.
		compare(api.Plan{Need: 2, Of: of, Size: 3})
	}
	if seen[api.OK] < 100 || seen[api.ErrTorn] < 20 {
		t.Errorf("there are too few of one kind: %v", seen)
	}
}

func TestNoneIsBent(t *testing.T) {
	next := rule()
	for _, p := range plans() {
		data := content(p.Size, 3, 11)
		all := shares(p, data)
		for choice := range 1 << p.Of {
			l := pick(all, choice)
			mix(l, next)
			if len(l) < p.Need {
				wantNone(t, "too few", p, l, api.ErrShort)
			} else {
				want(t, "none is bent", p, l, data, nil)
			}
		}
	}
}

// bend the shares in l at the places whose bit choice has, each its own way; it
// answers their numbers, rising.
func bend(l []api.Share, choice int, next func(below int) int) (numbers []int) {
	for k, s := range l {
		if choice>>k&1 == 0 {
			continue
		}
		turn(s, next(len(s.Values)), 1+next(api.Prime-1))
		numbers = append(numbers, s.N)
	}
	slices.Sort(numbers)
	return numbers
}

func count(choice int) int {
	n := 0
	for ; choice > 0; choice &= choice - 1 {
		n++
	}
	return n
}

// TestFewAreBent bends every few of all the shares, and of some of them: up to
// half of what is more than enough. (One more is too many: TestLikeVotes.)
func TestFewAreBent(t *testing.T) {
	next := rule()
	for _, p := range plans() {
		if p.Size == api.MaxData && p.Of < api.MaxShares {
			continue
		}
		data := content(p.Size, 7, 5)
		for many := p.Need; many <= p.Of; many++ {
			for choice := range 1 << many {
				if 2*count(choice) > many-p.Need {
					continue
				}
				l := shares(p, data)
				mix(l, next)
				l = l[:many]
				others := bend(l, choice, next)
				want(t, "few are bent", p, l, data, others)
			}
		}
	}
}

// rival: another content of p's size that has share n like data's for each n
// below like, which is below Need: the difference is 0 there, and nowhere else.
func rival(p api.Plan, data []int, like int) []int {
	c := slices.Clone(data)
	for r := 0; r < len(c); r += p.Need {
		for k := like; k < p.Need; k++ {
			v := 1 // k times k-1 and so on: as many factors as there are like ones.
			for j := range like {
				v = v * (k - j) % api.Prime
			}
			c[r+k] = (c[r+k] + v) % api.Prime
		}
	}
	return c
}

// TestLikeVotes: all that are bent are of one other content, which some of the
// others are of, too: as many as may be.
func TestLikeVotes(t *testing.T) {
	for need := 1; need <= api.MaxNeed; need++ {
		for of := need; of <= api.MaxShares; of++ {
			p := api.Plan{Need: need, Of: of, Size: 2 * need}
			data := content(p.Size, 9, 4)
			other := rival(p, data, need-1)
			good, bad := shares(p, data), shares(p, other)
			// Shares below both are of both contents, those from cut on of the other one.
			both := need - 1
			for cut := both; cut <= of; cut++ {
				some, many := numbers(both, cut), numbers(cut, of)
				l := slices.Concat(good[:cut], bad[cut:])
				turned := slices.Concat(good[:both], bad[cut:], good[both:cut])
				switch {
				case len(some) > len(many):
					want(t, "most are of it", p, l, data, many)
					want(t, "most are of it, turned", p, turned, data, many)
				case len(some) < len(many):
					want(t, "most are of the other", p, l, other, some)
					want(t, "most are of the other, turned", p, turned, other, some)
				default:
					// Need of them come first, and make the one or the other.
					want(t, "like votes", p, l, data, many)
					want(t, "like votes, turned", p, turned, other, some)
				}
			}
		}
	}
}

// numbers from one to below another.
func numbers(from, to int) []int {
	var l []int
	for ; from < to; from++ {
		l = append(l, from)
	}
	return l
}

// TestNothingIsMade: shares that fit together, but go on behind Size.
func TestNothingIsMade(t *testing.T) {
	for need := 2; need <= api.MaxNeed; need++ {
		for of := need; of <= api.MaxShares; of++ {
			for size := 1; size <= api.MaxData; size++ {
				if size%need == 0 {
					continue
				}
				p := api.Plan{Need: need, Of: of, Size: size}
				data := content((size+need-1)/need*need, 1, 4)
				for k := size; k < len(data); k++ {
					data[k] = 0
				}
				want(t, "noughts behind Size", p, shares(p, data), data[:size], nil)
				data[len(data)-1] = 6
				l := shares(p, data)
				wantNone(t, "behind Size", p, l, api.ErrTorn)
				wantNone(t, "behind Size, just Need", p, l[of-need:], api.ErrTorn)
			}
		}
	}
	at := func(n, value int) api.Share { return api.Share{N: n, Values: []int{value}} }
	half := api.Plan{Need: 2, Of: 4, Size: 1}
	wantNone(t, "each is of something else", half, []api.Share{at(0, 1), at(2, 29), at(3, 25)}, api.ErrTorn)
	wantNone(t, "and one of nothing", half, []api.Share{at(0, 1), at(2, 29), at(1, 5), at(3, 25)}, api.ErrTorn)
}

// badPlans: each field out of its range, by a little and by much.
func badPlans() []api.Plan {
	return []api.Plan{
		{},
		{Need: 0, Of: 3, Size: 3},
		{Need: -1, Of: 3, Size: 3},
		{Need: api.MaxNeed + 1, Of: api.MaxShares, Size: 3},
		{Need: math.MaxInt, Of: math.MaxInt, Size: 3},
		{Need: 2, Of: 1, Size: 3},
		{Need: 2, Of: api.MaxShares + 1, Size: 3},
		{Need: 2, Of: math.MinInt, Size: 3},
		{Need: 2, Of: 3, Size: 0},
		{Need: 2, Of: 3, Size: api.MaxData + 1},
		{Need: 2, Of: 3, Size: math.MinInt},
	}
}

func TestErrors(t *testing.T) {
	p := api.Plan{Need: 2, Of: 3, Size: 3}
	a := api.Share{N: 0, Values: []int{5, 9}}
	b := api.Share{N: 1, Values: []int{7, 0}}
	c := api.Share{N: 2, Values: []int{9, 22}}
	bent := api.Share{N: 1, Values: []int{7, 1}}
	who := api.Share{N: 3, Values: []int{1, 1}}
	short := api.Share{N: 1, Values: []int{7}}
	far := api.Share{N: 1, Values: []int{7, api.Prime}}
	want(t, "no error", p, []api.Share{c, bent, a}, []int{5, 7, 9}, []int{1})
	for _, x := range []struct {
		what string
		l    []api.Share
		err  api.Errno
	}{
		{"nil", nil, api.ErrShort},
		{"empty", []api.Share{}, api.ErrShort},
		{"one too few", []api.Share{c}, api.ErrShort},
		{"no such share", []api.Share{a, c, who}, api.ErrWho},
		{"below 0", []api.Share{a, c, {N: -1, Values: []int{1, 1}}}, api.ErrWho},
		{"far above", []api.Share{{N: math.MaxInt, Values: []int{1, 1}}, a, c}, api.ErrWho},
		{"too short", []api.Share{a, c, short}, api.ErrForm},
		{"too long", []api.Share{a, c, {N: 1, Values: []int{7, 0, 0}}}, api.ErrForm},
		{"no values", []api.Share{a, c, {N: 1}}, api.ErrForm},
		{"no number", []api.Share{a, c, far}, api.ErrRange},
		{"below the numbers", []api.Share{{N: 1, Values: []int{-1, 0}}, a, c}, api.ErrRange},
		{"twice", []api.Share{c, c}, api.ErrTwice},
		{"twice, once bent", []api.Share{b, a, bent}, api.ErrTwice},
		{"torn", []api.Share{a, bent}, api.ErrTorn},
		{"many ahead of who", slices.Repeat([]api.Share{who}, api.MaxShares+1), api.ErrMany},
		{"many ahead of twice", slices.Repeat([]api.Share{a}, api.MaxShares+1), api.ErrMany},
		{"very many", slices.Repeat([]api.Share{a, b, c}, 10000), api.ErrMany},
		{"just not too many", slices.Repeat([]api.Share{a}, api.MaxShares), api.ErrTwice},
		{"who ahead of short", []api.Share{who}, api.ErrWho},
		{"form ahead of short", []api.Share{short}, api.ErrForm},
		{"range ahead of short", []api.Share{far}, api.ErrRange},
		{"who ahead of torn", []api.Share{a, bent, who}, api.ErrWho},
		{"twice ahead of torn", []api.Share{a, bent, a}, api.ErrTwice},
		{"first share first: form, who", []api.Share{a, short, who}, api.ErrForm},
		{"first share first: who, form", []api.Share{a, who, short}, api.ErrWho},
		{"first share first: twice, range", []api.Share{a, a, far}, api.ErrTwice},
		{"first share first: range, twice", []api.Share{a, far, a}, api.ErrRange},
		{"One ahead of twice", []api.Share{b, short}, api.ErrForm},
	} {
		wantNone(t, x.what, p, x.l, x.err)
		_, e := share.Join(p, x.l)
		if e != x.err {
			t.Errorf("%s: Join has error %d, Most %d", x.what, e, x.err)
		}
	}
	for _, bad := range badPlans() {
		wantNone(t, "no plan", bad, []api.Share{a, b}, api.ErrRange)
		wantNone(t, "no plan ahead of many", bad, make([]api.Share, api.MaxShares+1), api.ErrRange)
		wantNone(t, "no plan and no shares", bad, nil, api.ErrRange)
	}
}

// wipe writes over all of l, and the spare room behind it.
func wipe(l []int) {
	l = l[:cap(l)]
	for i := range l {
		l[i] = -1
	}
}

func TestSharesAreOnlyRead(t *testing.T) {
	next := rule()
	mark := api.Share{N: 99}
	for _, p := range plans() {
		data := content(p.Size, 6, 3)
		for few := 0; 2*few <= p.Of-p.Need; few++ {
			good := shares(p, data)
			mix(good, next)
			others := bend(good, 1<<few-1, next)
			for k := range good {
				good[k].Values = append(good[k].Values, 17, 17)
			}
			whole := append(clone(good), mark, mark)
			for k := range p.Of {
				whole[k].Values = whole[k].Values[:len(whole[k].Values)-2]
			}
			untouched := func() bool {
				l := slices.Clone(whole)
				for k := range p.Of {
					l[k].Values = l[k].Values[:len(l[k].Values)+2]
				}
				return sameShares(l[:p.Of], good) && sameShares(l[p.Of:], []api.Share{mark, mark})
			}
			gotData, gotOthers, e := Most(p, whole[:p.Of])
			if e != api.OK || !untouched() {
				t.Fatalf("Most(%v) changed what it was handed, or has error %d", p, e)
			}
			wipe(gotData)
			if !slices.Equal(gotOthers, others) || !untouched() {
				t.Fatalf("Most(%v): the content shares memory", p)
			}
			wipe(gotOthers)
			if !untouched() {
				t.Fatalf("Most(%v): the numbers share memory", p)
			}
			want(t, "again", p, whole[:p.Of], data, others)
		}
	}
}

// TestErrorsOnlyRead: nor is anything changed where there is an error.
func TestErrorsOnlyRead(t *testing.T) {
	p := api.Plan{Need: 2, Of: 4, Size: 1}
	for _, l := range [][]api.Share{
		{{N: 3, Values: []int{25}}, {N: 0, Values: []int{1}}, {N: 2, Values: []int{29}}},
		{{N: 3, Values: []int{25}}, {N: 1, Values: []int{1}}, {N: 3, Values: []int{25}}},
		{{N: 3, Values: []int{25}}, {N: 1, Values: []int{99}}, {N: -2, Values: nil}},
	} {
		was := clone(l)
		if _, _, e := Most(p, l); e == api.OK || !sameShares(l, was) {
			t.Errorf("Most(%v, %v): error %d, was %v", p, l, e, was)
		}
	}
}
