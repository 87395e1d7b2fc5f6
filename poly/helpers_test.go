package poly_test

import (
	"bytes"
	"math/rand"
	"memfault/api"
	"slices"
	"testing"
)

// greatest is the number of coefficients of a polynomial of the greatest degree.
const greatest = api.MaxDegree + 1

// product multiplies two elements of the field: polynomials over two elements, reduced from the highest term down.
func product(a, b byte) byte {
	sum := 0
	for k := range 8 {
		if b>>k&1 == 1 {
			sum ^= int(a) << k
		}
	}
	for k := 14; k >= 8; k-- {
		if sum>>k&1 == 1 {
			sum ^= 0x11d << (k - 8)
		}
	}
	return byte(sum)
}

// of makes a list of its elements, the coefficient of x^0 first.
func of(list ...byte) []byte { return list }

// term is c x^n.
func term(c byte, n int) []byte {
	p := make([]byte, n+1)
	p[n] = c
	return p
}

// withoutZeros copies p up to its last element that is not 0.
func withoutZeros(p []byte) []byte {
	end := 0
	for k, c := range p {
		if c != 0 {
			end = k + 1
		}
	}
	return bytes.Clone(p[:end])
}

// plus is the sum, each coefficient by itself.
func plus(p, q []byte) []byte {
	sum := make([]byte, max(len(p), len(q)))
	for k := range sum {
		if k < len(p) {
			sum[k] ^= p[k]
		}
		if k < len(q) {
			sum[k] ^= q[k]
		}
	}
	return withoutZeros(sum)
}

// times is the product, each pair of coefficients by itself.
func times(p, q []byte) []byte {
	all := make([]byte, len(p)+len(q))
	for i, a := range p {
		for k, b := range q {
			all[i+k] ^= product(a, b)
		}
	}
	return withoutZeros(all)
}

// withRoots is the product of x + r for all r of roots, which may occur more than once.
func withRoots(roots ...byte) []byte {
	p := of(1)
	for _, r := range roots {
		p = times(p, of(r, 1))
	}
	return p
}

// value is the sum of the terms of p at x, each with a power of its own.
func value(p []byte, x byte) byte {
	sum, power := byte(0), byte(1)
	for _, c := range p {
		sum ^= product(c, power)
		power = product(power, x)
	}
	return sum
}

// someOf makes a polynomial of n coefficients, the last one not 0; about half of the others are 0.
func someOf(r *rand.Rand, n int) []byte {
	p := make([]byte, n)
	for k := range p {
		if k == n-1 || r.Intn(2) == 0 {
			p[k] = byte(1 + r.Intn(255))
		}
	}
	return p
}

// invalid are lists that are no polynomials: with a zero at the end, or too long.
func invalid() [][]byte {
	return [][]byte{of(0), of(0, 0), of(1, 0), of(0, 5, 0), make([]byte, 999), term(1, greatest), bytes.Repeat(of(1), greatest+1), append(term(1, greatest-1), 0)}
}

func wantList(t *testing.T, what string, got []byte, err api.Errno, want []byte) {
	t.Helper()
	if err != api.OK || !bytes.Equal(got, want) {
		t.Errorf("%s: %v, error %d; want %v", what, got, err, want)
	}
}

// wantError checks an error, and that the result beside it is empty.
func wantError(t *testing.T, what string, got []byte, err, want api.Errno) {
	t.Helper()
	if err != want || len(got) > 0 {
		t.Errorf("%s: %v, error %d; want error %d", what, got, err, want)
	}
}

// wantAlone checks that a call neither modifies its arguments nor shares their memory with its results, nor that of the results among each other.
func wantAlone(t *testing.T, what string, arguments [][]byte, call func(a [][]byte) [][]byte) {
	t.Helper()
	var given [][]byte
	for _, a := range arguments {
		// There is room behind the argument, which has to stay as it is too.
		given = append(given, append(append(make([]byte, 0, len(a)+8), a...), 1, 2, 3, 4, 5, 6, 7, 8)[:len(a)])
	}
	results := call(given)
	for i, r := range results {
		before := slices.Clone(results)
		for k := range before {
			before[k] = bytes.Clone(results[k])
		}
		whole := r[:cap(r)]
		for k := range whole {
			whole[k] ^= 255
		}
		for k := range results {
			if k != i && !bytes.Equal(before[k], results[k]) {
				t.Errorf("%s: results %d and %d share memory", what, i, k)
			}
		}
	}
	for i, a := range arguments {
		if !bytes.Equal(given[i], a) || !bytes.Equal(given[i][:len(a)+8][len(a):], of(1, 2, 3, 4, 5, 6, 7, 8)) {
			t.Errorf("%s: argument %d was changed", what, i)
		}
	}
}
