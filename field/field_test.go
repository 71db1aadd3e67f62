package field

import (
	"math"
	"testing"

	"cellarman/api"
)

// wrong: values that are no numbers, next to the limits and at the ends of int.
func wrong() []int {
	return []int{-1, -2, -api.Prime, api.Prime, api.Prime + 1, 2 * api.Prime, math.MinInt, math.MinInt + 1, math.MaxInt}
}

type operation struct {
	name string
	call func(a, b int) (int, api.Errno)
}

func operations() []operation {
	return []operation{{"Add", Add}, {"Mul", Mul}, {"Div", Div}}
}

// must: the answer of a call that may have no error.
func must(t *testing.T, name string, call func(a, b int) (int, api.Errno), a, b int) int {
	t.Helper()
	got, e := call(a, b)
	if e != api.OK {
		t.Fatalf("%s(%d, %d): error %d", name, a, b, e)
	}
	if Check(got) != api.OK {
		t.Fatalf("%s(%d, %d): %d is no number", name, a, b, got)
	}
	return got
}

func add(t *testing.T, a, b int) int { t.Helper(); return must(t, "Add", Add, a, b) }
func mul(t *testing.T, a, b int) int { t.Helper(); return must(t, "Mul", Mul, a, b) }
func div(t *testing.T, a, b int) int { t.Helper(); return must(t, "Div", Div, a, b) }

func TestCheck(t *testing.T) {
	for a := range api.Prime {
		if e := Check(a); e != api.OK {
			t.Errorf("Check(%d): error %d", a, e)
		}
	}
	for _, a := range wrong() {
		if e := Check(a); e != api.ErrRange {
			t.Errorf("Check(%d): error %d, want ErrRange", a, e)
		}
	}
}

func TestWrittenOut(t *testing.T) {
	top := api.Prime - 1
	for _, c := range []struct {
		name       string
		call       func(a, b int) (int, api.Errno)
		a, b, want int
	}{
		{"Add", Add, 0, 0, 0},
		{"Add", Add, 3, 4, 7},
		{"Add", Add, 20, 13, 2},
		{"Add", Add, top, 0, top},
		{"Add", Add, top, 1, 0},
		{"Add", Add, top, top, 29},
		{"Mul", Mul, 0, top, 0},
		{"Mul", Mul, top, 0, 0},
		{"Mul", Mul, 1, top, top},
		{"Mul", Mul, 5, 6, 30},
		{"Mul", Mul, 6, 6, 5},
		{"Mul", Mul, top, top, 1},
		{"Div", Div, 1, 2, 16},
		{"Div", Div, 0, 1, 0},
		{"Div", Div, 0, 7, 0},
		{"Div", Div, 0, top, 0},
		{"Div", Div, top, 1, top},
		{"Div", Div, 1, top, top},
		{"Div", Div, top, top, 1},
		{"Div", Div, 12, 4, 3},
		{"Div", Div, 5, 6, 6},
	} {
		if got := must(t, c.name, c.call, c.a, c.b); got != c.want {
			t.Errorf("%s(%d, %d): %d, want %d", c.name, c.a, c.b, got, c.want)
		}
	}
}

func TestAllPairs(t *testing.T) {
	for a := range api.Prime {
		for b := range api.Prime {
			if got := add(t, a, b); got != (a+b)%api.Prime {
				t.Errorf("Add(%d, %d): %d", a, b, got)
			}
			if got := mul(t, a, b); got != (a*b)%api.Prime {
				t.Errorf("Mul(%d, %d): %d", a, b, got)
			}
			if b == 0 {
				continue
			}
			if got := div(t, a, b); (got*b)%api.Prime != a {
				t.Errorf("Div(%d, %d): %d", a, b, got)
			}
		}
	}
}

func TestWrongInputs(t *testing.T) {
	refused := func(o operation, a, b int) {
		t.Helper()
		if got, e := o.call(a, b); got != 0 || e != api.ErrRange {
			t.Errorf("%s(%d, %d): %d, error %d, want 0, ErrRange", o.name, a, b, got, e)
		}
	}
	for _, o := range operations() {
		for _, w := range wrong() {
			for a := range api.Prime {
				refused(o, a, w)
				refused(o, w, a)
			}
			for _, v := range wrong() {
				refused(o, w, v)
			}
		}
	}
	for a := range api.Prime {
		refused(operation{"Div", Div}, a, 0)
	}
}

// TestFractions: a by b, and c by d, are added, multiplied and divided as
// fractions are (P1.2).
func TestFractions(t *testing.T) {
	for a := range api.Prime {
		for b := 1; b < api.Prime; b++ {
			for c := range api.Prime {
				for d := 1; d < api.Prime; d += 7 {
					fractions(t, a, b, c, d)
				}
			}
		}
	}
}

func fractions(t *testing.T, a, b, c, d int) {
	t.Helper()
	p, q := div(t, a, b), div(t, c, d)
	below := mul(t, b, d)
	if add(t, p, q) != div(t, add(t, mul(t, a, d), mul(t, c, b)), below) {
		t.Errorf("%d by %d and %d by %d together", a, b, c, d)
	}
	if mul(t, p, q) != div(t, mul(t, a, c), below) {
		t.Errorf("%d by %d times %d by %d", a, b, c, d)
	}
	if c != 0 && div(t, p, q) != div(t, mul(t, a, d), mul(t, b, c)) {
		t.Errorf("%d by %d by (%d by %d)", a, b, c, d)
	}
}
