package share

import (
	"math"
	"slices"
	"testing"

	"cellarman/api"
)

// wrong: values that are no numbers, next to the limits and at the ends of int.
func wrong() []int {
	return []int{-1, -api.Prime, api.Prime, api.Prime + 1, 2 * api.Prime, math.MinInt, math.MaxInt}
}

// plans: every plan that may be.
func plans() []api.Plan {
	var l []api.Plan
	for need := 1; need <= api.MaxNeed; need++ {
		for of := need; of <= api.MaxShares; of++ {
			for size := 1; size <= api.MaxData; size++ {
				l = append(l, api.Plan{Need: need, Of: of, Size: size})
			}
		}
	}
	return l
}

// badPlans: each field out of its range, by a little and by much.
func badPlans() []api.Plan {
	return []api.Plan{
		{},
		{Need: 0, Of: 3, Size: 3},
		{Need: -1, Of: 3, Size: 3},
		{Need: math.MinInt, Of: 3, Size: 3},
		{Need: api.MaxNeed + 1, Of: api.MaxShares, Size: 3},
		{Need: math.MaxInt, Of: math.MaxInt, Size: 3},
		{Need: 2, Of: 1, Size: 3},
		{Need: 2, Of: 0, Size: 3},
		{Need: 2, Of: math.MinInt, Size: 3},
		{Need: 2, Of: api.MaxShares + 1, Size: 3},
		{Need: 2, Of: math.MaxInt, Size: 3},
		{Need: 2, Of: 3, Size: 0},
		{Need: 2, Of: 3, Size: -1},
		{Need: 2, Of: 3, Size: math.MinInt},
		{Need: 2, Of: 3, Size: api.MaxData + 1},
		{Need: 2, Of: 3, Size: math.MaxInt},
	}
}

// content of n numbers from a rule, so that each is something else.
func content(n, first, step int) []int {
	l := make([]int, n)
	for k := range l {
		l[k] = (first + k*step + k*k) % api.Prime
	}
	return l
}

// further: the value at place of the curve with these values at 0, 1 and so
// on, by its differences: the one of the order of their count is always 0.
// It leans on nothing of the program.
func further(row []int, place int) int {
	factors := map[int][]int{1: {1}, 2: {2, -1}, 3: {3, -3, 1}, 4: {4, -6, 4, -1}}[len(row)]
	l := slices.Clone(row)
	for len(l) <= place {
		v := 0
		for j, f := range factors {
			v += f * l[len(l)-1-j]
		}
		l = append(l, (v%api.Prime+api.Prime)%api.Prime)
	}
	return l[place]
}

// model of Split, by further.
func model(p api.Plan, data []int) []api.Share {
	whole := slices.Clone(data)
	for len(whole)%p.Need != 0 {
		whole = append(whole, 0)
	}
	var l []api.Share
	for k := range p.Of {
		s := api.Share{N: k}
		for row := range slices.Chunk(whole, p.Need) {
			s.Values = append(s.Values, further(row, k))
		}
		l = append(l, s)
	}
	return l
}

func sameShares(a, b []api.Share) bool {
	return slices.EqualFunc(a, b, func(a, b api.Share) bool {
		return a.N == b.N && slices.Equal(a.Values, b.Values)
	})
}

func clone(l []api.Share) []api.Share {
	var c []api.Share
	for _, s := range l {
		c = append(c, api.Share{N: s.N, Values: slices.Clone(s.Values)})
	}
	return c
}

// split: the shares where there may be no error.
func split(t *testing.T, p api.Plan, data []int) []api.Share {
	t.Helper()
	l, e := Split(p, data)
	if e != api.OK {
		t.Fatalf("Split(%v, %v): error %d", p, data, e)
	}
	return l
}

// wantJoin: these shares are joined to data.
func wantJoin(t *testing.T, p api.Plan, l []api.Share, data []int) {
	t.Helper()
	if got, e := Join(p, l); e != api.OK || !slices.Equal(got, data) {
		t.Fatalf("Join(%v, %v): %v, error %d, want %v", p, l, got, e, data)
	}
}

// wantNone: these shares aren't joined, and nothing is answered beside that.
func wantNone(t *testing.T, what string, p api.Plan, l []api.Share, want api.Errno) {
	t.Helper()
	if got, e := Join(p, l); e != want || len(got) != 0 {
		t.Errorf("%s: Join(%v, %v): %v, error %d, want error %d", what, p, l, got, e, want)
	}
}

func TestCheckAndLong(t *testing.T) {
	for _, p := range plans() {
		if e := Check(p); e != api.OK {
			t.Errorf("Check(%v): error %d", p, e)
		}
		long := 0
		for long*p.Need < p.Size {
			long++
		}
		if got := Long(p); got != long {
			t.Errorf("Long(%v): %d, want %d", p, got, long)
		}
	}
	for _, p := range badPlans() {
		if e, long := Check(p), Long(p); e != api.ErrRange || long != 0 {
			t.Errorf("%v: Check: error %d, Long: %d", p, e, long)
		}
	}
}

func TestOne(t *testing.T) {
	p := api.Plan{Need: 2, Of: 3, Size: 3}
	for _, c := range []struct {
		what string
		p    api.Plan
		s    api.Share
		want api.Errno
	}{
		{"the first", p, api.Share{N: 0, Values: []int{0, 0}}, api.OK},
		{"the last", p, api.Share{N: 2, Values: []int{api.Prime - 1, api.Prime - 1}}, api.OK},
		{"of no content", p, api.Share{N: 2, Values: []int{3, 4}}, api.OK},
		{"the greatest", api.Plan{Need: 1, Of: api.MaxShares, Size: api.MaxData}, api.Share{N: api.MaxShares - 1, Values: make([]int, api.MaxData)}, api.OK},
		{"below 0", p, api.Share{N: -1, Values: []int{1, 1}}, api.ErrWho},
		{"Of", p, api.Share{N: 3, Values: []int{1, 1}}, api.ErrWho},
		{"far below 0", p, api.Share{N: math.MinInt, Values: []int{1, 1}}, api.ErrWho},
		{"far above", p, api.Share{N: math.MaxInt, Values: []int{1, 1}}, api.ErrWho},
		{"nil", p, api.Share{N: 1}, api.ErrForm},
		{"empty", p, api.Share{N: 1, Values: []int{}}, api.ErrForm},
		{"too few", p, api.Share{N: 1, Values: []int{1}}, api.ErrForm},
		{"too many", p, api.Share{N: 1, Values: []int{1, 1, 0}}, api.ErrForm},
		{"Check ahead of all", api.Plan{Need: 2, Of: 3}, api.Share{N: 9}, api.ErrRange},
		{"who ahead of form", p, api.Share{N: 3, Values: []int{99}}, api.ErrWho},
		{"who ahead of range", p, api.Share{N: 3, Values: []int{1, 99}}, api.ErrWho},
		{"form ahead of range", p, api.Share{N: 1, Values: []int{1, 1, 99}}, api.ErrForm},
	} {
		if e := One(c.p, c.s); e != c.want {
			t.Errorf("%s: One(%v, %v): error %d, want %d", c.what, c.p, c.s, e, c.want)
		}
	}
	for _, w := range wrong() {
		for _, values := range [][]int{{w, 1}, {1, w}} {
			if e := One(p, api.Share{N: 1, Values: values}); e != api.ErrRange {
				t.Errorf("One of %v: error %d", values, e)
			}
		}
	}
	for _, p := range badPlans() {
		if e := One(p, api.Share{}); e != api.ErrRange {
			t.Errorf("One(%v): error %d", p, e)
		}
	}
}

func TestSame(t *testing.T) {
	for _, c := range []struct {
		a, b api.Share
		want bool
	}{
		{api.Share{}, api.Share{}, true},
		{api.Share{}, api.Share{Values: []int{}}, true},
		{api.Share{N: 1, Values: []int{7, 0}}, api.Share{N: 1, Values: []int{7, 0}}, true},
		{api.Share{N: -9, Values: []int{99, -1}}, api.Share{N: -9, Values: []int{99, -1}}, true},
		{api.Share{N: 1, Values: []int{7, 0}}, api.Share{N: 2, Values: []int{7, 0}}, false},
		{api.Share{N: 1}, api.Share{N: 2}, false},
		{api.Share{N: 1, Values: []int{7, 0}}, api.Share{N: 1, Values: []int{0, 7}}, false},
		{api.Share{N: 1, Values: []int{7, 0}}, api.Share{N: 1, Values: []int{7}}, false},
		{api.Share{N: 1, Values: []int{7, 0}}, api.Share{N: 1, Values: []int{7, 31}}, false},
		{api.Share{N: 1, Values: []int{0}}, api.Share{N: 1}, false},
	} {
		if Same(c.a, c.b) != c.want || Same(c.b, c.a) != c.want {
			t.Errorf("Same(%v, %v) isn't %v", c.a, c.b, c.want)
		}
	}
}

func TestSplitWrittenOut(t *testing.T) {
	for _, c := range []struct {
		p    api.Plan
		data []int
		want []api.Share
	}{
		{api.Plan{Need: 2, Of: 3, Size: 3}, []int{5, 7, 9}, []api.Share{{N: 0, Values: []int{5, 9}}, {N: 1, Values: []int{7, 0}}, {N: 2, Values: []int{9, 22}}}},
		{api.Plan{Need: 1, Of: 1, Size: 1}, []int{30}, []api.Share{{N: 0, Values: []int{30}}}},
		{api.Plan{Need: 1, Of: 3, Size: 2}, []int{4, 6}, []api.Share{{N: 0, Values: []int{4, 6}}, {N: 1, Values: []int{4, 6}}, {N: 2, Values: []int{4, 6}}}},
		{api.Plan{Need: 2, Of: 2, Size: 4}, []int{1, 2, 3, 4}, []api.Share{{N: 0, Values: []int{1, 3}}, {N: 1, Values: []int{2, 4}}}},
		{api.Plan{Need: 3, Of: 5, Size: 3}, []int{0, 1, 4}, []api.Share{{N: 0, Values: []int{0}}, {N: 1, Values: []int{1}}, {N: 2, Values: []int{4}}, {N: 3, Values: []int{9}}, {N: 4, Values: []int{16}}}},
		{api.Plan{Need: 4, Of: 5, Size: 1}, []int{1}, []api.Share{{N: 0, Values: []int{1}}, {N: 1, Values: []int{0}}, {N: 2, Values: []int{0}}, {N: 3, Values: []int{0}}, {N: 4, Values: []int{30}}}},
	} {
		if l := split(t, c.p, c.data); !sameShares(l, c.want) {
			t.Errorf("Split(%v, %v): %v, want %v", c.p, c.data, l, c.want)
		}
	}
}

func TestSplitOfAllPlans(t *testing.T) {
	for _, p := range plans() {
		for first := range 3 {
			data := content(p.Size, 7*first, 5+first)
			l := split(t, p, data)
			if want := model(p, data); !sameShares(l, want) {
				t.Fatalf("Split(%v, %v): %v, want %v", p, data, l, want)
			}
			for _, s := range l {
				if e := One(p, s); e != api.OK {
					t.Fatalf("Split(%v, %v): %v: error %d", p, data, s, e)
				}
			}
			wantJoin(t, p, l, data)
		}
	}
}

// TestAnyNeedAreEnough joins every choice of Need and more shares, forwards,
// backwards and turned.
func TestAnyNeedAreEnough(t *testing.T) {
	for _, p := range plans() {
		if p.Size > 5 && p.Size < api.MaxData {
			continue
		}
		data := content(p.Size, 3, 11)
		all := split(t, p, data)
		for choice := range 1 << p.Of {
			var l []api.Share
			for k, s := range all {
				if choice>>k&1 == 1 {
					l = append(l, s)
				}
			}
			if len(l) < p.Need {
				wantNone(t, "too few", p, l, api.ErrShort)
				continue
			}
			wantJoin(t, p, l, data)
			slices.Reverse(l)
			wantJoin(t, p, l, data)
			wantJoin(t, p, append(slices.Clone(l[1:]), l[0]), data)
		}
	}
}

// TestBentAmongMore bends each value of each share by each amount: where there
// are more than Need of them, it shows.
func TestBentAmongMore(t *testing.T) {
	for _, p := range []api.Plan{{Need: 1, Of: 2, Size: 2}, {Need: 2, Of: 3, Size: 3}, {Need: 3, Of: 8, Size: 7}, {Need: 4, Of: 5, Size: 8}} {
		good := split(t, p, content(p.Size, 2, 9))
		for k := range good {
			for r := range good[k].Values {
				for by := 1; by < api.Prime; by++ {
					l := clone(good)
					l[k].Values[r] = (l[k].Values[r] + by) % api.Prime
					wantNone(t, "bent", p, l, api.ErrTorn)
				}
			}
		}
	}
}

// TestBentAmongNeed: just Need shares of whole rows are always of a content,
// their own one.
func TestBentAmongNeed(t *testing.T) {
	p := api.Plan{Need: 2, Of: 4, Size: 4}
	for a := range api.Prime {
		for b := range api.Prime {
			l := []api.Share{{N: 3, Values: []int{a, b}}, {N: 1, Values: []int{b, 4}}}
			data, e := Join(p, l)
			if e != api.OK {
				t.Fatalf("Join(%v, %v): error %d", p, l, e)
			}
			all := split(t, p, data)
			if !Same(all[3], l[0]) || !Same(all[1], l[1]) {
				t.Fatalf("Join(%v, %v): %v, whose shares are %v", p, l, data, all)
			}
		}
	}
}

// TestBehindSize: just Need shares whose rows go on behind Size.
func TestBehindSize(t *testing.T) {
	for need := 2; need <= api.MaxNeed; need++ {
		for size := 1; size <= api.MaxData; size++ {
			p := api.Plan{Need: need, Of: need, Size: size}
			longer := api.Plan{Need: need, Of: need, Size: Long(p) * need}
			for at := size; at < longer.Size; at++ {
				data := content(size, 1, 4)
				data = append(data, make([]int, longer.Size-size)...)
				wantJoin(t, p, split(t, longer, data), data[:size])
				data[at] = 1 + at%(api.Prime-1)
				wantNone(t, "behind Size", p, split(t, longer, data), api.ErrTorn)
			}
		}
	}
}

func TestSplitErrors(t *testing.T) {
	p := api.Plan{Need: 2, Of: 3, Size: 3}
	for _, c := range []struct {
		what string
		p    api.Plan
		data []int
		want api.Errno
	}{
		{"nil", p, nil, api.ErrForm},
		{"empty", p, []int{}, api.ErrForm},
		{"too few", p, []int{1, 2}, api.ErrForm},
		{"too many", p, []int{1, 2, 3, 0}, api.ErrForm},
		{"Long of them", p, []int{1, 2}, api.ErrForm},
		{"Check ahead of form", api.Plan{Need: 5, Of: 6, Size: 3}, nil, api.ErrRange},
		{"form ahead of range", p, []int{99}, api.ErrForm},
	} {
		if l, e := Split(c.p, c.data); e != c.want || len(l) != 0 {
			t.Errorf("%s: Split(%v, %v): %v, error %d, want error %d", c.what, c.p, c.data, l, e, c.want)
		}
	}
	for _, w := range wrong() {
		for k := range p.Size {
			data := []int{1, 2, 3}
			data[k] = w
			if l, e := Split(p, data); e != api.ErrRange || len(l) != 0 {
				t.Errorf("Split(%v, %v): %v, error %d", p, data, l, e)
			}
		}
	}
	for _, p := range badPlans() {
		if l, e := Split(p, []int{1, 2, 3}); e != api.ErrRange || len(l) != 0 {
			t.Errorf("Split(%v): %v, error %d", p, l, e)
		}
	}
}

func TestJoinErrors(t *testing.T) {
	p := api.Plan{Need: 2, Of: 3, Size: 3}
	a := api.Share{N: 0, Values: []int{5, 9}}
	b := api.Share{N: 1, Values: []int{7, 0}}
	c := api.Share{N: 2, Values: []int{9, 22}}
	bent := api.Share{N: 1, Values: []int{7, 1}}
	who := api.Share{N: 3, Values: []int{1, 1}}
	short := api.Share{N: 1, Values: []int{7}}
	far := api.Share{N: 1, Values: []int{7, api.Prime}}
	for _, x := range []struct {
		what string
		l    []api.Share
		want api.Errno
	}{
		{"nil", nil, api.ErrShort},
		{"empty", []api.Share{}, api.ErrShort},
		{"one too few", []api.Share{c}, api.ErrShort},
		{"no such share", []api.Share{a, who}, api.ErrWho},
		{"below 0", []api.Share{a, {N: -1, Values: []int{1, 1}}}, api.ErrWho},
		{"too short", []api.Share{a, short}, api.ErrForm},
		{"no values", []api.Share{a, {N: 1}}, api.ErrForm},
		{"no number", []api.Share{a, far}, api.ErrRange},
		{"twice", []api.Share{c, c}, api.ErrTwice},
		{"twice with another between", []api.Share{c, a, c}, api.ErrTwice},
		{"twice, once bent", []api.Share{b, a, bent}, api.ErrTwice},
		{"bent, the last", []api.Share{a, c, bent}, api.ErrTorn},
		{"bent, the first", []api.Share{bent, a, c}, api.ErrTorn},
		{"bent, behind Size", []api.Share{a, bent}, api.ErrTorn},
		{"many ahead of who", slices.Repeat([]api.Share{who}, api.MaxShares+1), api.ErrMany},
		{"many ahead of twice", slices.Repeat([]api.Share{a}, api.MaxShares+1), api.ErrMany},
		{"just not too many", slices.Repeat([]api.Share{a}, api.MaxShares), api.ErrTwice},
		{"who ahead of short", []api.Share{who}, api.ErrWho},
		{"form ahead of short", []api.Share{short}, api.ErrForm},
		{"range ahead of short", []api.Share{far}, api.ErrRange},
		{"who ahead of torn", []api.Share{a, c, bent, who}, api.ErrWho},
		{"twice ahead of torn", []api.Share{a, c, bent, c}, api.ErrTwice},
		{"first share first: form, who", []api.Share{short, who}, api.ErrForm},
		{"first share first: who, form", []api.Share{who, short}, api.ErrWho},
		{"first share first: range, form", []api.Share{far, short}, api.ErrRange},
		{"first share first: twice, who", []api.Share{a, a, who}, api.ErrTwice},
		{"first share first: twice, form", []api.Share{a, a, short}, api.ErrTwice},
		{"One ahead of twice", []api.Share{b, short}, api.ErrForm},
		{"One ahead of twice: range", []api.Share{b, far}, api.ErrRange},
		{"first share first: range, twice", []api.Share{a, far, a}, api.ErrRange},
	} {
		wantNone(t, x.what, p, x.l, x.want)
	}
	for _, w := range wrong() {
		wantNone(t, "no number", p, []api.Share{{N: 2, Values: []int{w, 1}}, a}, api.ErrRange)
	}
	for _, bad := range badPlans() {
		wantNone(t, "no plan", bad, []api.Share{a, b}, api.ErrRange)
		wantNone(t, "no plan ahead of many", bad, make([]api.Share, api.MaxShares+1), api.ErrRange)
		wantNone(t, "no plan and no shares", bad, nil, api.ErrRange)
	}
}

// roomy: l with spare room behind it that holds mark.
func roomy(l []int, mark int) []int {
	whole := append(slices.Clone(l), mark, mark, mark)
	return whole[:len(l)]
}

func spareIs(l []int, mark int) bool {
	for _, v := range l[len(l) : len(l)+3] {
		if v != mark {
			return false
		}
	}
	return true
}

func TestDataIsOnlyRead(t *testing.T) {
	for _, p := range plans() {
		data := roomy(content(p.Size, 4, 13), 17)
		l := split(t, p, data)
		if !slices.Equal(data, content(p.Size, 4, 13)) || !spareIs(data, 17) {
			t.Fatalf("Split(%v) changed what it was handed", p)
		}
		want := clone(l)
		for k := range data {
			data[k] = 30 - data[k]
		}
		if !sameShares(l, want) {
			t.Fatalf("Split(%v): the shares hold on to the content", p)
		}
		for k := range l {
			whole := l[k].Values[:cap(l[k].Values)]
			for i := range whole {
				whole[i] = -1
			}
			want[k].Values = l[k].Values
			if !sameShares(l, want) {
				t.Fatalf("Split(%v): share %d holds on to another", p, k)
			}
		}
	}
}

func TestSharesAreOnlyRead(t *testing.T) {
	for _, p := range plans() {
		data := content(p.Size, 6, 3)
		good := split(t, p, data)
		mark := api.Share{N: 99}
		whole := append(clone(good), mark, mark)
		l := whole[:p.Of]
		for k := range l {
			l[k].Values = roomy(l[k].Values, 17)
		}
		got, e := Join(p, l)
		if e != api.OK || !sameShares(l, good) || !sameShares(whole[p.Of:], []api.Share{mark, mark}) {
			t.Fatalf("Join(%v) changed what it was handed, or has error %d", p, e)
		}
		for k := range l {
			if e := One(p, l[k]); e != api.OK || !Same(l[k], good[k]) || !spareIs(l[k].Values, 17) {
				t.Fatalf("share %d of %v was changed, or has error %d", k, p, e)
			}
		}
		got = got[:cap(got)]
		for i := range got {
			got[i] = -1
		}
		if !sameShares(l, good) || !spareIs(l[0].Values, 17) {
			t.Fatalf("Join(%v): the content holds on to the shares", p)
		}
	}
}
