package poly_test

import (
	"math/rand"
	"memfault/api"
	"memfault/poly"
	"testing"
)

// add and mul fail the test if there is an error.
func add(t *testing.T, p, q []byte) []byte {
	t.Helper()
	sum, err := poly.Add(p, q)
	if err != api.OK {
		t.Fatalf("sum of %v and %v: error %d", p, q, err)
	}
	return sum
}

func mul(t *testing.T, p, q []byte) []byte {
	t.Helper()
	got, err := poly.Mul(p, q)
	if err != api.OK {
		t.Fatalf("product of %v and %v: error %d", p, q, err)
	}
	return got
}

// The laws of a ring, and that values and derivatives follow them.
func TestLaws(t *testing.T) {
	r := rand.New(rand.NewSource(10))
	for range 300 {
		p, q, s := someOf(r, r.Intn(85)), someOf(r, r.Intn(85)), someOf(r, r.Intn(85))
		wantList(t, "p + q", add(t, p, q), api.OK, add(t, q, p))
		wantList(t, "p + p", add(t, p, p), api.OK, nil)
		wantList(t, "p + 0", add(t, p, nil), api.OK, p)
		wantList(t, "p + q + s", add(t, add(t, p, q), s), api.OK, add(t, p, add(t, q, s)))
		wantList(t, "p q", mul(t, p, q), api.OK, mul(t, q, p))
		wantList(t, "p 1", mul(t, p, of(1)), api.OK, p)
		wantList(t, "p q s", mul(t, mul(t, p, q), s), api.OK, mul(t, p, mul(t, q, s)))
		wantList(t, "p (q + s)", mul(t, p, add(t, q, s)), api.OK, add(t, mul(t, p, q), mul(t, p, s)))
		byParts := add(t, mul(t, poly.Derive(p), q), mul(t, p, poly.Derive(q)))
		wantList(t, "derivative of p q", poly.Derive(mul(t, p, q)), api.OK, byParts)
		x := byte(r.Intn(256))
		if poly.Eval(add(t, p, q), x) != poly.Eval(p, x)^poly.Eval(q, x) {
			t.Errorf("value of p + q at %d", x)
		}
		if poly.Eval(mul(t, p, q), x) != product(poly.Eval(p, x), poly.Eval(q, x)) {
			t.Errorf("value of p q at %d", x)
		}
	}
}
