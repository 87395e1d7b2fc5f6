package poly

import (
	"memfault/api"
	"memfault/field"
	"slices"
)

// elements is the number of elements of the field.
const elements = 256

// Eval returns the value of p at x.
func Eval(p []byte, x byte) byte {
	value := byte(0)
	for _, c := range slices.Backward(p) {
		value = field.Mul(value, x) ^ c
	}
	return value
}

// Roots returns the elements at which p is 0, ascending.
func Roots(p []byte) []byte {
	if !Valid(p) || len(p) == 0 {
		return nil
	}
	var roots []byte
	for x := range elements {
		if Eval(p, byte(x)) == 0 {
			roots = append(roots, byte(x))
		}
	}
	return roots
}

// Through returns the polynomial of the least degree whose value at xs[i] is ys[i].
func Through(xs, ys []byte) ([]byte, api.Errno) {
	if len(xs) != len(ys) || len(xs) > api.MaxDegree+1 {
		return nil, api.ErrSize
	}
	curve := make([]byte, len(xs))
	// None is 0 at the points before and at no other element: a multiple of it mends one point more and leaves the others.
	none := []byte{1}
	for i, x := range xs {
		slope := Eval(none, x)
		if slope == 0 {
			return nil, api.ErrTwice
		}
		// The slope is not 0: there is no error.
		factor, _ := field.Divide(Eval(curve, x)^ys[i], slope)
		addMultiple(curve, none, factor)
		none = timesRoot(none, x)
	}
	return trimmed(curve), api.OK
}

// timesRoot returns p times the polynomial X + x, which is 0 at x alone.
func timesRoot(p []byte, x byte) []byte {
	product := make([]byte, len(p)+1)
	copy(product[1:], p)
	addMultiple(product, p, x)
	return product
}
