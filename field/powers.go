package field

import (
	"math/bits"
	"memfault/api"
)

// Power returns a to the power of n, which may be negative.
func Power(a byte, n int) (byte, api.Errno) {
	switch {
	case a != 0:
		return power(a, cycle(n)), api.OK
	case n < 0:
		return 0, api.ErrZero
	case n == 0:
		return 1, api.OK
	}
	return 0, api.OK
}

// Exp returns 2 to the power of n.
func Exp(n int) byte {
	return power(2, cycle(n))
}

// Log returns the number from 0 to 254 whose Exp is a.
func Log(a byte) (int, api.Errno) {
	if a == 0 {
		return 0, api.ErrZero
	}
	n := 0
	// The powers of 2 are all elements but 0: a is among them.
	for x := byte(1); x != a; x = double(x) {
		n++
	}
	return n, api.OK
}

// cycle returns n modulo 255, from 0 on: the powers of an element other than 0 recur in this cycle, to both sides.
func cycle(n int) int {
	return (n%period + period) % period
}

// power returns a to the power of n, which is not negative.
func power(a byte, n int) byte {
	result := byte(1)
	for k := range bits.Len(uint(n)) {
		if n>>k&1 == 1 {
			result = Mul(result, a)
		}
		a = Mul(a, a)
	}
	return result
}
