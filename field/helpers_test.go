package field_test

import (
	"math"
	"math/big"
	"memfault/api"
	"testing"
)

// modulus is x^8 + x^4 + x^3 + x^2 + 1.
const modulus = 0x11d

// product multiplies two polynomials over two elements, and then reduces the product from its highest term down, a step for each.
func product(a, b int) int {
	sum := 0
	for k := 0; k < 8; k++ {
		if b&(1<<k) != 0 {
			sum ^= a << k
		}
	}
	for k := 14; k >= 8; k-- {
		if sum&(1<<k) != 0 {
			sum ^= modulus << (k - 8)
		}
	}
	return sum
}

// inverseOf looks for the inverse among all elements.
func inverseOf(t *testing.T, a int) int {
	t.Helper()
	for b := 0; b < 256; b++ {
		if product(a, b) == 1 {
			return b
		}
	}
	t.Fatalf("%d has no inverse", a)
	return 0
}

// factors is the product of n factors a.
func factors(a, n int) int {
	result := 1
	for ; n > 0; n-- {
		result = product(result, a)
	}
	return result
}

// residue is n modulo 255, from 0 on.
func residue(n int) int {
	return int(new(big.Int).Mod(big.NewInt(int64(n)), big.NewInt(255)).Int64())
}

// farExponents are exponents that are too far from 0 to count their factors.
func farExponents() []int {
	list := []int{math.MinInt, math.MinInt + 1, math.MinInt + 254, math.MaxInt - 254, math.MaxInt - 1, math.MaxInt}
	for _, n := range []int{1 << 31, 1 << 32, 1 << 62, 255 << 40} {
		list = append(list, n-1, n, n+1, -n-1, -n, -n+1)
	}
	return list
}

func wantElement(t *testing.T, what string, a, b int, got byte, err api.Errno, want int) {
	t.Helper()
	if err != api.OK || int(got) != want {
		t.Errorf("%s of %d, %d: %d, error %d; want %d", what, a, b, got, err, want)
	}
}

// wantZero checks a division by zero, and that the result beside the error is 0.
func wantZero(t *testing.T, what string, a, b int, got int, err api.Errno) {
	t.Helper()
	if err != api.ErrZero || got != 0 {
		t.Errorf("%s of %d, %d: %d, error %d; want error %d", what, a, b, got, err, api.ErrZero)
	}
}
