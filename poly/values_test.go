package poly_test

import (
	"bytes"
	"math/rand"
	"memfault/api"
	"memfault/poly"
	"testing"
)

// P4.3
func TestEval(t *testing.T) {
	for _, c := range []struct {
		p       []byte
		x, want byte
	}{
		{nil, 0, 0},
		{nil, 5, 0},
		{of(7), 0, 7},
		{of(7), 9, 7},
		{of(2, 3, 1), 0, 2},
		{of(2, 3, 1), 1, 0},
		{of(2, 3, 1), 2, 0},
		{of(1, 0, 1), 3, 4},
		{of(1, 0, 0), 9, 1},
		{of(0, 1), 200, 200},
		{term(1, 255), 2, 1},
		{term(1, 256), 2, 2},
		{make([]byte, 5000), 3, 0},
	} {
		if got := poly.Eval(c.p, c.x); got != c.want {
			t.Errorf("%v at %d: %d; want %d", c.p, c.x, got, c.want)
		}
	}
}

// Lists of any length have values, with zeros at their end too.
func TestEvalRandom(t *testing.T) {
	r := rand.New(rand.NewSource(6))
	for _, n := range []int{1, 2, 3, 17, 254, 255, 256, 257, 1000} {
		p := append(someOf(r, n), 0, 0)
		for x := range 256 {
			if got, want := poly.Eval(p, byte(x)), value(p, byte(x)); got != want {
				t.Errorf("%d coefficients at %d: %d; want %d", n, x, got, want)
			}
		}
	}
}

func TestRoots(t *testing.T) {
	var exceptZero []byte
	for x := 1; x < 255; x++ {
		exceptZero = append(exceptZero, byte(x))
	}
	for _, c := range []struct{ p, want []byte }{
		{nil, nil},
		{of(1), nil},
		{of(255), nil},
		{of(0, 1), of(0)},
		{of(0, 0, 1), of(0)},
		{of(255, 1), of(255)},
		{of(2, 3, 1), of(1, 2)},
		{withRoots(9, 4, 200, 4, 0, 9), of(0, 4, 9, 200)},
		{times(withRoots(255, 0), of(77)), of(0, 255)},
		{withRoots(exceptZero...), exceptZero},
		{append(of(1), term(1, 253)...), of(1)}, // no other element has an order that divides 254
		{of(32, 1, 1), nil},
	} {
		wantList(t, "Roots", poly.Roots(c.p), api.OK, c.want)
	}
	for _, p := range append(invalid(), append(withRoots(3, 4), 0)) {
		wantList(t, "Roots of what is not valid", poly.Roots(p), api.OK, nil)
	}
}

func TestRootsRandom(t *testing.T) {
	r := rand.New(rand.NewSource(7))
	for n := range 120 {
		p := someOf(r, n+1)
		var want []byte
		for x := range 256 {
			if value(p, byte(x)) == 0 {
				want = append(want, byte(x))
			}
		}
		got := poly.Roots(p)
		wantList(t, "Roots", got, api.OK, want)
		if len(got) > n {
			t.Errorf("degree %d, %d roots", n, len(got))
		}
	}
}

// P4.4
func TestThrough(t *testing.T) {
	for _, c := range []struct{ xs, ys, want []byte }{
		{nil, nil, nil},
		{of(7), of(0), nil},
		{of(7), of(9), of(9)},
		{of(0, 1), of(5, 5), of(5)},
		{of(1, 2), of(0, 0), nil},
		{of(1, 2), of(3, 0), of(2, 1)},
		{of(2, 1), of(0, 3), of(2, 1)},
		{of(0, 1, 2), of(2, 0, 0), of(2, 3, 1)},
		{of(9, 255, 0), of(9, 255, 0), of(0, 1)},
	} {
		got, err := poly.Through(c.xs, c.ys)
		wantList(t, "Through", got, err, c.want)
	}
}

// A valid polynomial of a lesser degree than there are points is the only one through them.
func TestThroughRandom(t *testing.T) {
	r := rand.New(rand.NewSource(8))
	for n := 1; n <= greatest; n += 1 + n/16 {
		xs, ys := make([]byte, n), make([]byte, n)
		for i, x := range r.Perm(256)[:n] {
			xs[i], ys[i] = byte(x), byte(r.Intn(256))
		}
		wantThrough(t, xs, ys)
	}
	full := r.Perm(256)[:greatest]
	xs, ys := make([]byte, greatest), make([]byte, greatest)
	for i, x := range full {
		xs[i], ys[i] = byte(x), byte(r.Intn(256))
	}
	wantThrough(t, xs, ys)
}

func wantThrough(t *testing.T, xs, ys []byte) {
	t.Helper()
	got, err := poly.Through(xs, ys)
	if err != api.OK || !poly.Valid(got) || len(got) > len(xs) {
		t.Errorf("%d points: %v, error %d", len(xs), got, err)
	}
	for i, x := range xs {
		if value(got, x) != ys[i] {
			t.Errorf("%d points: the value at %d is not %d", len(xs), x, ys[i])
		}
	}
}

// The points of a polynomial give it back, as soon as there are more of them than its degree.
func TestThroughBack(t *testing.T) {
	r := rand.New(rand.NewSource(9))
	for _, n := range []int{0, 1, 2, 10, 100, 255} {
		p := someOf(r, n)
		for _, points := range []int{n, n + 1, n + 20} {
			var xs, ys []byte
			for _, x := range r.Perm(256)[:min(points, greatest)] {
				xs, ys = append(xs, byte(x)), append(ys, value(p, byte(x)))
			}
			got, err := poly.Through(xs, ys)
			wantList(t, "Through", got, err, p)
		}
	}
}

func TestThroughErrors(t *testing.T) {
	zeros := make([]byte, greatest+1)
	var all []byte
	for x := range 256 {
		all = append(all, byte(x))
	}
	for _, c := range []struct {
		xs, ys []byte
		err    api.Errno
	}{
		{of(1), nil, api.ErrSize},
		{nil, of(1), api.ErrSize},
		{of(1, 1), of(2), api.ErrSize},
		{all, all, api.ErrSize},
		{zeros, zeros, api.ErrSize},
		{all, zeros[:greatest], api.ErrSize},
		{of(1, 1), of(2, 2), api.ErrTwice},
		{of(1, 1), of(2, 3), api.ErrTwice},
		{of(0, 5, 0), of(0, 0, 0), api.ErrTwice},
		{of(8, 6, 7, 6), of(1, 2, 3, 4), api.ErrTwice},
		{zeros[:greatest], zeros[:greatest], api.ErrTwice},
		{append(bytes.Clone(all[:254]), 253), all[:greatest], api.ErrTwice},
	} {
		got, err := poly.Through(c.xs, c.ys)
		wantError(t, "Through", got, err, c.err)
	}
}
