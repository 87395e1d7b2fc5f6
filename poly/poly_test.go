package poly_test

import (
	"bytes"
	"math/rand"
	"memfault/api"
	"memfault/poly"
	"testing"
)

// P4.1
func TestValid(t *testing.T) {
	for _, p := range [][]byte{nil, {}, of(1), of(255), of(0, 1), of(0, 0, 7), term(1, api.MaxDegree), bytes.Repeat(of(9), greatest)} {
		if !poly.Valid(p) {
			t.Errorf("%v is not valid", p)
		}
	}
	for _, p := range invalid() {
		if poly.Valid(p) {
			t.Errorf("%v is valid", p)
		}
	}
}

func TestTrim(t *testing.T) {
	for _, c := range []struct{ p, want []byte }{
		{nil, nil},
		{of(0), nil},
		{of(0, 0, 0), nil},
		{of(4), of(4)},
		{of(4, 0), of(4)},
		{of(0, 3, 0, 0), of(0, 3)},
		{of(0, 3, 0, 2), of(0, 3, 0, 2)},
		{make([]byte, 100000), nil},
		{append(term(1, 99999), 0, 0), term(1, 99999)},
		{append(of(1), make([]byte, 100000)...), of(1)},
	} {
		wantList(t, "Trim", poly.Trim(c.p), api.OK, c.want)
	}
}

// P4.2
func TestAdd(t *testing.T) {
	top := term(1, api.MaxDegree)
	for _, c := range []struct{ p, q, want []byte }{
		{nil, nil, nil},
		{of(5), nil, of(5)},
		{of(1, 2, 3), of(1, 2, 3), nil},
		{of(1, 2, 3), of(0, 0, 3), of(1, 2)},
		{of(1, 2, 3), of(9, 2, 3), of(8)},
		{of(1), of(0, 0, 0, 1), of(1, 0, 0, 1)},
		{of(1, 2, 3), of(0, 6), of(1, 4, 3)},
		{top, top, nil},
		{top, of(7), plus(top, of(7))},
		{top, term(3, api.MaxDegree), term(2, api.MaxDegree)},
	} {
		got, err := poly.Add(c.p, c.q)
		wantList(t, "Add", got, err, c.want)
		got, err = poly.Add(c.q, c.p)
		wantList(t, "Add", got, err, c.want)
	}
	r := rand.New(rand.NewSource(1))
	for range 2000 {
		p, q := someOf(r, r.Intn(greatest+1)), someOf(r, r.Intn(greatest+1))
		got, err := poly.Add(p, q)
		wantList(t, "Add", got, err, plus(p, q))
	}
}

func TestMul(t *testing.T) {
	top := term(5, api.MaxDegree)
	for _, c := range []struct{ p, q, want []byte }{
		{of(1, 1), of(1, 1), of(1, 0, 1)},
		{of(1, 1), of(2, 1), of(2, 3, 1)},
		{of(2), of(128), of(29)},
		{of(0, 2), of(0, 128), of(0, 0, 29)},
		{nil, nil, nil},
		{nil, of(3), nil},
		{nil, top, nil},
		{of(1), top, top},
		{of(3), top, term(15, api.MaxDegree)},
		{term(1, 127), term(1, 127), term(1, 254)},
		{term(1, 1), term(1, 253), term(1, 254)},
	} {
		got, err := poly.Mul(c.p, c.q)
		wantList(t, "Mul", got, err, c.want)
		got, err = poly.Mul(c.q, c.p)
		wantList(t, "Mul", got, err, c.want)
	}
	r := rand.New(rand.NewSource(2))
	for range 300 {
		n := 1 + r.Intn(greatest)
		p, q := someOf(r, n), someOf(r, 1+r.Intn(greatest-n+1))
		got, err := poly.Mul(p, q)
		wantList(t, "Mul", got, err, times(p, q))
	}
}

func TestMulLimit(t *testing.T) {
	for _, c := range []struct{ p, q []byte }{
		{term(1, 127), term(1, 128)},
		{term(1, 254), of(0, 1)},
		{term(1, 254), term(1, 254)},
		{bytes.Repeat(of(1), greatest), of(1, 1)},
	} {
		got, err := poly.Mul(c.p, c.q)
		wantError(t, "Mul", got, err, api.ErrLimit)
		got, err = poly.Mul(c.q, c.p)
		wantError(t, "Mul", got, err, api.ErrLimit)
	}
}

// What is not valid comes before the limit, and before a product of zero.
func TestInvalidOperands(t *testing.T) {
	for _, p := range invalid() {
		for _, q := range [][]byte{nil, of(1), of(0, 1), term(1, api.MaxDegree), p} {
			for _, pair := range [][2][]byte{{p, q}, {q, p}} {
				got, err := poly.Add(pair[0], pair[1])
				wantError(t, "Add", got, err, api.ErrInvalid)
				got, err = poly.Mul(pair[0], pair[1])
				wantError(t, "Mul", got, err, api.ErrInvalid)
				got, err = poly.Gcd(pair[0], pair[1])
				wantError(t, "Gcd", got, err, api.ErrInvalid)
				got, rest, err := poly.Divide(pair[0], pair[1])
				wantError(t, "Divide", append(got, rest...), err, api.ErrInvalid)
			}
		}
	}
}

// P4.3
func TestDerive(t *testing.T) {
	for _, c := range []struct{ p, want []byte }{
		{nil, nil},
		{of(9), nil},
		{of(9, 8), of(8)},
		{of(0, 0, 1), nil},
		{of(1, 1, 1), of(1)},
		{of(7, 5, 3, 2), of(5, 0, 2)},
		{of(7, 5, 3, 2, 6), of(5, 0, 2)},
		{of(1, 1, 0, 0), of(1)},
		{of(1, 0, 0, 0), nil},
		{term(3, 253), term(3, 252)},
		{term(3, 254), nil},
		{make([]byte, greatest), nil},
		{term(1, greatest), nil},
		{append(of(1, 1), make([]byte, greatest-2)...), of(1)},
		{append(of(1, 1), make([]byte, greatest-1)...), nil},
		{bytes.Repeat(of(1), greatest+1), nil},
	} {
		wantList(t, "Derive", poly.Derive(c.p), api.OK, c.want)
	}
}

func TestAlone(t *testing.T) {
	pairs := [][][]byte{{of(1, 2, 3), of(4, 5)}, {of(4, 5), of(1, 2, 3)}, {of(1, 2, 3), of(1, 2, 3)}, {of(6), of(1, 2)}, {of(1, 2), of(6)}, {of(3, 4), nil}, {nil, of(3, 4)}, {of(2, 1), of(1)}}
	for _, pair := range pairs {
		for what, f := range map[string]func(p, q []byte) ([]byte, api.Errno){"Add": poly.Add, "Mul": poly.Mul, "Gcd": poly.Gcd} {
			wantAlone(t, what, pair, func(a [][]byte) [][]byte {
				got, _ := f(a[0], a[1])
				return [][]byte{got}
			})
		}
		wantAlone(t, "Divide", pair, func(a [][]byte) [][]byte {
			quotient, rest, _ := poly.Divide(a[0], a[1])
			return [][]byte{quotient, rest}
		})
	}
	for _, p := range [][]byte{nil, of(4, 1), of(1, 2, 0, 0), of(6, 11, 6, 1)} {
		for what, f := range map[string]func(p []byte) []byte{"Trim": poly.Trim, "Derive": poly.Derive, "Roots": poly.Roots} {
			wantAlone(t, what, [][]byte{p}, func(a [][]byte) [][]byte { return [][]byte{f(a[0])} })
		}
	}
	wantAlone(t, "Through", [][]byte{of(1, 2, 3), of(9, 0, 8)}, func(a [][]byte) [][]byte {
		got, _ := poly.Through(a[0], a[1])
		return [][]byte{got}
	})
}
