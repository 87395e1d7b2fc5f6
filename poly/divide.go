package poly

import (
	"memfault/api"
	"memfault/field"
	"slices"
)

// Divide returns the quotient of p and q, and the rest.
func Divide(p, q []byte) ([]byte, []byte, api.Errno) {
	if !Valid(p) || !Valid(q) {
		return nil, nil, api.ErrInvalid
	}
	if len(q) == 0 {
		return nil, nil, api.ErrZero
	}
	quotient, rest := divide(p, q)
	return quotient, rest, api.OK
}

// divide does what Divide does, for valid polynomials of which q is not zero.
func divide(p, q []byte) (quotient, rest []byte) {
	rest = slices.Clone(p)
	if len(p) < len(q) {
		return nil, rest
	}
	degree := len(q) - 1
	inverse := inverseOfTop(q)
	quotient = make([]byte, len(p)-degree)
	for k := range slices.Backward(quotient) {
		quotient[k] = field.Mul(rest[k+degree], inverse)
		addMultiple(rest[k:], q, quotient[k])
	}
	return quotient, trimmed(rest)
}

// Gcd returns the polynomial of the greatest degree that divides p and q and has 1 as its last element.
func Gcd(p, q []byte) ([]byte, api.Errno) {
	if !Valid(p) || !Valid(q) {
		return nil, api.ErrInvalid
	}
	// Euclid: what divides two polynomials divides one of them and the rest, and the other way round.
	divisor, rest := p, q
	for len(rest) > 0 {
		_, next := divide(divisor, rest)
		divisor, rest = rest, next
	}
	if len(divisor) == 0 {
		return nil, api.OK
	}
	gcd := make([]byte, len(divisor))
	addMultiple(gcd, divisor, inverseOfTop(divisor))
	return gcd, api.OK
}

// inverseOfTop returns the inverse of the last element of p, which is valid and not zero: there is one.
func inverseOfTop(p []byte) byte {
	inverse, _ := field.Inverse(p[len(p)-1])
	return inverse
}
