package field_test

import (
	"memfault/api"
	"memfault/field"
	"testing"
)

// allProducts keeps Mul of all pairs, so that all triples can be looked through.
func allProducts() *[256][256]byte {
	var table [256][256]byte
	for a := range table {
		for b := range table[a] {
			table[a][b] = field.Mul(byte(a), byte(b))
		}
	}
	return &table
}

// The laws of a field, with the exclusive or as the sum. Those of the sum alone hold for it anyway.
func TestLawsOfProducts(t *testing.T) {
	mul := allProducts()
	for a := range 256 {
		if mul[a][1] != byte(a) || mul[1][a] != byte(a) {
			t.Errorf("1 is not neutral for %d", a)
		}
		for b := range 256 {
			ab := mul[a][b]
			if ab != mul[b][a] {
				t.Errorf("%d and %d: the order counts", a, b)
			}
			if (ab == 0) != (a == 0 || b == 0) {
				t.Errorf("%d times %d is %d", a, b, ab)
			}
			for c := range 256 {
				if mul[ab][c] != mul[a][mul[b][c]] {
					t.Fatalf("%d, %d, %d: not associative", a, b, c)
				}
				if mul[a][b^c] != ab^mul[a][c] {
					t.Fatalf("%d, %d, %d: not distributive", a, b, c)
				}
			}
		}
	}
}

func TestLawsOfQuotients(t *testing.T) {
	for b := 1; b < 256; b++ {
		inverse, err := field.Inverse(byte(b))
		if err != api.OK || field.Mul(byte(b), inverse) != 1 {
			t.Errorf("%d times its Inverse %d, error %d, is not 1", b, inverse, err)
		}
		again, err := field.Inverse(inverse)
		wantElement(t, "Inverse", int(inverse), 0, again, err, b)
		for a := range 256 {
			quotient, err := field.Divide(byte(a), byte(b))
			wantElement(t, "Divide", a, b, field.Mul(quotient, byte(b)), err, a)
			back, err := field.Divide(field.Mul(byte(a), byte(b)), byte(b))
			wantElement(t, "Divide after Mul", a, b, back, err, a)
		}
	}
}

// logs are the Logs of all elements but 0.
func logs(t *testing.T) [256]int {
	t.Helper()
	var list [256]int
	for a := 1; a < 256; a++ {
		n, err := field.Log(byte(a))
		if err != api.OK || n < 0 || n > 254 {
			t.Fatalf("Log of %d: %d, error %d", a, n, err)
		}
		list[a] = n
	}
	return list
}

func TestLawsOfLogs(t *testing.T) {
	list := logs(t)
	for a := 1; a < 256; a++ {
		wantElement(t, "Exp of Log", a, 0, field.Exp(list[a]), api.OK, a)
		for b := 1; b < 256; b++ {
			if got := list[field.Mul(byte(a), byte(b))]; got != (list[a]+list[b])%255 {
				t.Errorf("Log of %d times %d: %d; those of both are %d and %d", a, b, got, list[a], list[b])
			}
		}
	}
	for n := range 255 {
		if got, err := field.Log(field.Exp(n)); err != api.OK || got != n {
			t.Errorf("Log of Exp of %d: %d, error %d", n, got, err)
		}
	}
}

// The powers of one element have the laws of exponents, on both sides of 0.
func TestLawsOfPowers(t *testing.T) {
	exponents := []int{-511, -256, -255, -254, -9, -1, 0, 1, 7, 254, 255, 256, 510}
	for a := 1; a < 256; a++ {
		for _, m := range exponents {
			for _, n := range exponents {
				left, err := field.Power(byte(a), m)
				right, code := field.Power(byte(a), n)
				sum, fail := field.Power(byte(a), m+n)
				if err != api.OK || code != api.OK || fail != api.OK || sum != field.Mul(left, right) {
					t.Errorf("%d to the powers of %d, %d and their sum: %d, %d, %d", a, m, n, left, right, sum)
				}
			}
		}
	}
}
