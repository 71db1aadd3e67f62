// Package field: numbers modulo api.Prime; see doc/01-field.md.
package field

import "cellarman/api"

// Check answers ErrRange if a isn't from 0 to below api.Prime.
func Check(a int) api.Errno {
	if a < 0 || a >= api.Prime {
		return api.ErrRange
	}
	return api.OK
}

// Add answers a and b together, modulo api.Prime.
func Add(a, b int) (int, api.Errno) {
	if e := checkBoth(a, b); e != api.OK {
		return 0, e
	}
	return (a + b) % api.Prime, api.OK
}

// Mul answers a times b, modulo api.Prime.
func Mul(a, b int) (int, api.Errno) {
	if e := checkBoth(a, b); e != api.OK {
		return 0, e
	}
	return times(a, b), api.OK
}

// Div answers the number that times b is a.
func Div(a, b int) (int, api.Errno) {
	if e := checkBoth(a, b); e != api.OK {
		return 0, e
	}
	if b == 0 {
		return 0, api.ErrRange
	}
	return times(a, inverse(b)), api.OK
}

func checkBoth(a, b int) api.Errno {
	if e := Check(a); e != api.OK {
		return e
	}
	return Check(b)
}

// times takes numbers that were checked, so that the product can't wrap round.
func times(a, b int) int { return a * b % api.Prime }

// inverse leans on Fermat's little theorem: b isn't 0, so b to the power of
// api.Prime-1 is 1, and one factor fewer is what times b is 1.
func inverse(b int) int {
	r := 1
	for range api.Prime - 2 {
		r = times(r, b)
	}
	return r
}
