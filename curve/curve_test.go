package curve

import (
	"math"
	"slices"
	"testing"

	"cellarman/api"
)

// wrong: values that are no numbers, next to the limits and at the ends of int.
func wrong() []int {
	return []int{-1, -api.Prime, api.Prime, api.Prime + 1, 2 * api.Prime, math.MinInt, math.MaxInt}
}

// at: the value where there may be no error.
func at(t *testing.T, x, y []int, place int) int {
	t.Helper()
	got, e := At(x, y, place)
	if e != api.OK {
		t.Fatalf("At(%v, %v, %d): error %d", x, y, place, e)
	}
	if got < 0 || got >= api.Prime {
		t.Fatalf("At(%v, %v, %d): %d is no number", x, y, place, got)
	}
	return got
}

// value of the polynomial with these factors, the lowest power's first, by
// plain reckoning that leans on nothing of the program.
func value(factors []int, place int) int {
	v := 0
	for k := len(factors) - 1; k >= 0; k-- {
		v = (v*place + factors[k]) % api.Prime
	}
	return v
}

func values(factors, places []int) []int {
	var l []int
	for _, p := range places {
		l = append(l, value(factors, p))
	}
	return l
}

// row: n numbers from a rule, so that each is somewhere else.
func row(n, first, step int) []int {
	var l []int
	for k := range n {
		l = append(l, (first+k*step)%api.Prime)
	}
	return l
}

func TestWrittenOut(t *testing.T) {
	top := api.Prime - 1
	for _, c := range []struct {
		x, y        []int
		place, want int
	}{
		{[]int{0, 1}, []int{5, 7}, 2, 9},
		{[]int{0, 1}, []int{5, 7}, top, 3},
		{[]int{1, 2}, []int{7, 9}, 0, 5},
		{[]int{0, 1}, []int{9, 0}, 2, 22},
		{[]int{0, 1, 2}, []int{0, 1, 4}, 5, 25},
		{[]int{0, 1, 2}, []int{0, 1, 4}, 6, 5},
		{[]int{0, 2}, []int{0, 1}, 1, 16},
		{[]int{4}, []int{6}, 0, 6},
		{[]int{4}, []int{6}, 4, 6},
		{[]int{4}, []int{6}, top, 6},
		{[]int{0}, []int{0}, 0, 0},
		{[]int{top}, []int{top}, top, top},
		{[]int{top, 0}, []int{0, 1}, 1, 2},
		{[]int{9, 4, 7}, []int{6, 1, 2}, 4, 1},
	} {
		if got := at(t, c.x, c.y, c.place); got != c.want {
			t.Errorf("At(%v, %v, %d): %d, want %d", c.x, c.y, c.place, got, c.want)
		}
	}
}

// TestThroughPoints: the curve has each point's y at that point's x, whatever
// the points are and however many.
func TestThroughPoints(t *testing.T) {
	for n := 1; n <= api.MaxShares; n++ {
		for first := range api.Prime {
			for step := 1; step < api.Prime; step += 4 {
				x, y := row(n, first, step), row(n, first*step, first)
				for i := range x {
					if got := at(t, x, y, x[i]); got != y[i] {
						t.Errorf("At(%v, %v, %d): %d, want %d", x, y, x[i], got, y[i])
					}
				}
			}
		}
	}
}

// TestNoOtherCurve: a curve of so low a degree is known whole by its points:
// any n points of a polynomial with n factors, or fewer, give it everywhere.
func TestNoOtherCurve(t *testing.T) {
	for n := 1; n <= api.MaxShares; n++ {
		for low := 1; low <= n; low++ {
			for first := range api.Prime {
				factors := row(low, first+3, 2*first+5)
				x := row(n, first, n+first%7+1)
				y := values(factors, x)
				for place := range api.Prime {
					if got := at(t, x, y, place); got != value(factors, place) {
						t.Fatalf("At(%v, %v, %d): %d, want %d", x, y, place, got, value(factors, place))
					}
				}
			}
		}
	}
}

// TestOneMoreDegree: through n points of a curve of a higher degree goes
// another one, so n are not more than are needed.
func TestOneMoreDegree(t *testing.T) {
	for n := 1; n < api.MaxShares; n++ {
		factors := make([]int, n+1)
		factors[n] = 1
		x := row(n, 0, 1)
		y := values(factors, x)
		if got := at(t, x, y, n); got == value(factors, n) {
			t.Errorf("At(%v, %v, %d): %d, as of degree %d", x, y, n, got, n)
		}
	}
}

func TestOrderOfPoints(t *testing.T) {
	x, y := []int{3, 30, 0, 17, 8}, []int{9, 0, 30, 4, 4}
	backX, backY := slices.Clone(x), slices.Clone(y)
	slices.Reverse(backX)
	slices.Reverse(backY)
	for place := range api.Prime {
		if at(t, x, y, place) != at(t, backX, backY, place) {
			t.Errorf("at %d it hangs on the order of the points", place)
		}
	}
}

func TestCheckAndErrors(t *testing.T) {
	most, more := row(api.MaxShares, 2, 3), row(api.MaxShares+1, 2, 3)
	for _, c := range []struct {
		name string
		x, y []int
		want api.Errno
	}{
		{"one point", []int{0}, []int{30}, api.OK},
		{"as many as may be", most, most, api.OK},
		{"the same y", []int{1, 2, 3}, []int{5, 5, 5}, api.OK},
		{"a y that is an x", []int{1, 2}, []int{2, 1}, api.OK},
		{"one point more", more, more, api.ErrMany},
		{"nil", nil, nil, api.ErrMany},
		{"empty", []int{}, []int{}, api.ErrMany},
		{"nil and empty", nil, []int{}, api.ErrMany},
		{"no y", []int{1}, nil, api.ErrForm},
		{"no x", []int{}, []int{1}, api.ErrForm},
		{"a y fewer", []int{1, 2}, []int{1}, api.ErrForm},
		{"a y more", []int{1, 2}, []int{1, 2, 3}, api.ErrForm},
		{"twice", []int{1, 1}, []int{2, 3}, api.ErrTwice},
		{"twice the point", []int{4, 1, 4}, []int{2, 3, 2}, api.ErrTwice},
		{"twice, the last", append(row(api.MaxShares-1, 0, 1), 0), most, api.ErrTwice},
		{"form ahead of many", more, most, api.ErrForm},
		{"form ahead of range", []int{31}, nil, api.ErrForm},
		{"form ahead of twice", []int{1, 1}, []int{1}, api.ErrForm},
		{"many ahead of range", append(slices.Clone(most), 31), more, api.ErrMany},
		{"many ahead of twice", make([]int, 9), make([]int, 9), api.ErrMany},
		{"range of the elder", []int{31, 1, 1}, []int{0, 0, 0}, api.ErrRange},
		{"twice of the elder", []int{1, 1, 31}, []int{0, 0, 0}, api.ErrTwice},
		{"twice ahead of a later y", []int{1, 1, 2}, []int{0, 0, -1}, api.ErrTwice},
		{"range ahead of twice, x", []int{31, 31}, []int{0, 0}, api.ErrRange},
		{"range ahead of twice, y", []int{1, 1}, []int{0, 31}, api.ErrRange},
	} {
		if e := Check(c.x, c.y); e != c.want {
			t.Errorf("%s: Check(%v, %v): error %d, want %d", c.name, c.x, c.y, e, c.want)
		}
		if got, e := At(c.x, c.y, 3); e != c.want || e != api.OK && got != 0 {
			t.Errorf("%s: At(%v, %v, 3): %d, error %d, want error %d", c.name, c.x, c.y, got, e, c.want)
		}
		if got, e := At(c.x, c.y, api.Prime); got != 0 || c.want != api.OK && e != c.want || c.want == api.OK && e != api.ErrRange {
			t.Errorf("%s: At(%v, %v, api.Prime): %d, error %d", c.name, c.x, c.y, got, e)
		}
	}
}

func TestNoNumbers(t *testing.T) {
	refused := func(x, y []int, place int) {
		t.Helper()
		if got, e := At(x, y, place); got != 0 || e != api.ErrRange {
			t.Errorf("At(%v, %v, %d): %d, error %d, want 0, ErrRange", x, y, place, got, e)
		}
	}
	for _, w := range wrong() {
		for k := range 4 {
			right, bad := row(4, 1, 5), row(4, 1, 5)
			bad[k] = w
			refused(bad, right, 3)
			refused(right, bad, 3)
			if Check(bad, right) != api.ErrRange || Check(right, bad) != api.ErrRange {
				t.Errorf("Check with %d at %d: want ErrRange", w, k)
			}
			refused(right, right, w)
		}
	}
}

// TestOnlyRead: neither the lists nor the room behind them are changed, and
// what stands in that room has no say.
func TestOnlyRead(t *testing.T) {
	wholeX, wholeY := []int{3, 8, 21, 3, 99}, []int{30, 0, 7, -4, 31}
	oldX, oldY := slices.Clone(wholeX), slices.Clone(wholeY)
	want := at(t, []int{3, 8, 21}, []int{30, 0, 7}, 12)
	if got := at(t, wholeX[:3], wholeY[:3], 12); got != want {
		t.Errorf("with room behind the lists: %d, want %d", got, want)
	}
	if e := Check(wholeX[:3], wholeY[:3]); e != api.OK {
		t.Errorf("with room behind the lists: error %d", e)
	}
	Check(wholeX, wholeY)
	At(wholeX, wholeY, 12)
	if !slices.Equal(wholeX, oldX) || !slices.Equal(wholeY, oldY) {
		t.Errorf("changed: %v and %v, were %v and %v", wholeX, wholeY, oldX, oldY)
	}
}
