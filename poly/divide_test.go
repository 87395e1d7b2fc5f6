package poly_test

import (
	"bytes"
	"math/rand"
	"memfault/api"
	"memfault/poly"
	"testing"
)

// P4.2
func TestDivide(t *testing.T) {
	for _, c := range []struct{ p, q, quotient, rest []byte }{
		{of(1, 0, 1), of(1, 1), of(1, 1), nil},
		{of(5, 0, 1), of(1, 1), of(1, 1), of(4)},
		{of(4, 6), of(2), of(2, 3), nil},
		{of(29), of(128), of(2), nil},
		{of(7), of(1, 1), nil, of(7)},
		{of(7, 3), of(1, 0, 1), nil, of(7, 3)},
		{of(7, 3), of(14, 6), of(142), nil},
		{nil, of(1, 1), nil, nil},
		{nil, of(1), nil, nil},
		{of(0, 0, 0, 1), of(0, 1), of(0, 0, 1), nil},
		{of(3, 4, 5, 1), term(1, 2), of(5, 1), of(3, 4)},
		{term(1, 254), term(1, 250), term(1, 4), nil},
		{term(1, 254), term(1, 254), of(1), nil},
		{bytes.Repeat(of(1), 255), of(1), bytes.Repeat(of(1), 255), nil},
	} {
		quotient, rest, err := poly.Divide(c.p, c.q)
		wantList(t, "quotient", quotient, err, c.quotient)
		wantList(t, "rest", rest, err, c.rest)
	}
}

// There is one quotient for which the rest has a lesser degree.
func TestDivideRandom(t *testing.T) {
	r := rand.New(rand.NewSource(3))
	for range 500 {
		p, q := someOf(r, r.Intn(greatest+1)), someOf(r, 1+r.Intn(greatest))
		quotient, rest, err := poly.Divide(p, q)
		if len(rest) >= len(q) || !poly.Valid(quotient) || !poly.Valid(rest) {
			t.Errorf("%v by %v: quotient %v, rest %v", p, q, quotient, rest)
		}
		wantList(t, "quotient times divisor, and rest", plus(times(quotient, q), rest), err, p)
	}
}

func TestDivideByZero(t *testing.T) {
	for _, p := range [][]byte{nil, of(1), of(0, 1), term(1, api.MaxDegree)} {
		for _, zero := range [][]byte{nil, {}} {
			quotient, rest, err := poly.Divide(p, zero)
			wantError(t, "Divide", append(quotient, rest...), err, api.ErrZero)
		}
	}
}

func TestGcd(t *testing.T) {
	top := term(9, api.MaxDegree)
	for _, c := range []struct{ p, q, want []byte }{
		{nil, nil, nil},
		{nil, of(9), of(1)},
		{nil, of(2, 2), of(1, 1)},
		{nil, top, term(1, api.MaxDegree)},
		{of(3), of(9), of(1)},
		{of(3), top, of(1)},
		{of(2, 3, 1), of(3, 2, 1), of(1, 1)},
		{of(2, 3, 1), of(2, 3, 1), of(2, 3, 1)},
		{of(1, 1), of(2, 1), of(1)},
		{of(0, 0, 4), of(0, 7), of(0, 1)},
		{top, term(3, 100), term(1, 100)},
	} {
		got, err := poly.Gcd(c.p, c.q)
		wantList(t, "Gcd", got, err, c.want)
		got, err = poly.Gcd(c.q, c.p)
		wantList(t, "Gcd", got, err, c.want)
	}
}

// Of products of x + r, the common divisor has the roots that both have, as often as both have them.
func TestGcdOfRoots(t *testing.T) {
	r := rand.New(rand.NewSource(4))
	for range 300 {
		var roots [3][]byte // of p alone, of q alone, of both
		for range r.Intn(80) {
			k := r.Intn(3)
			a := byte(r.Intn(85))
			if k < 2 {
				a = byte(3*r.Intn(85) + k + 1) // none of the others is among them
			} else {
				a *= 3
			}
			roots[k] = append(roots[k], a)
		}
		both := withRoots(roots[2]...)
		p := times(times(withRoots(roots[0]...), both), of(byte(1+r.Intn(255))))
		q := times(times(withRoots(roots[1]...), both), of(byte(1+r.Intn(255))))
		got, err := poly.Gcd(p, q)
		wantList(t, "Gcd", got, err, both)
	}
}

// A common factor that has been multiplied into two polynomials divides their Gcd, and the Gcd divides both, without a rest.
func TestGcdDivides(t *testing.T) {
	r := rand.New(rand.NewSource(5))
	for range 200 {
		factor := someOf(r, 1+r.Intn(100))
		p, q := times(someOf(r, 1+r.Intn(150)), factor), times(someOf(r, 1+r.Intn(150)), factor)
		gcd, err := poly.Gcd(p, q)
		if err != api.OK || gcd[len(gcd)-1] != 1 {
			t.Fatalf("Gcd of %v and %v: %v, error %d", p, q, gcd, err)
		}
		for _, pair := range [][2][]byte{{gcd, factor}, {p, gcd}, {q, gcd}} {
			_, rest, err := poly.Divide(pair[0], pair[1])
			wantList(t, "rest", rest, err, nil)
		}
	}
}
