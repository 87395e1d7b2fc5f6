package nat

import (
	"math/bits"
	"memfault/api"
	"slices"
)

// Divide returns the quotient of a and b, rounded down, and the rest.
func Divide(a, b api.Nat) (api.Nat, api.Nat, api.Errno) {
	if !Valid(a) || !Valid(b) {
		return api.Nat{}, api.Nat{}, api.ErrInvalid
	}
	if len(b.Limbs) == 0 {
		return api.Nat{}, api.Nat{}, api.ErrZero
	}
	quotient, rest := divideLimbs(a.Limbs, b.Limbs)
	return api.Nat{Limbs: quotient}, api.Nat{Limbs: rest}, api.OK
}

// Gcd returns the greatest number that divides both a and b, by Euclid's algorithm.
func Gcd(a, b api.Nat) (api.Nat, api.Errno) {
	if !Valid(a) || !Valid(b) {
		return api.Nat{}, api.ErrInvalid
	}
	x, y := slices.Clone(a.Limbs), slices.Clone(b.Limbs)
	for len(y) > 0 {
		_, rest := divideLimbs(x, y)
		x, y = y, rest
	}
	return api.Nat{Limbs: x}, api.OK
}

// divideLimbs returns the quotient and the rest of a and b, which is not 0, both in new memory.
func divideLimbs(a, b []int) (quotient, rest []int) {
	switch {
	case len(a) < len(b):
		return nil, slices.Clone(a)
	case len(b) == 1:
		quotient = slices.Clone(a)
		rest = []int{shrink(quotient, b[0])}
	default:
		quotient, rest = divideLong(a, b)
	}
	return trim(quotient), trim(rest)
}

// divideLong divides limb by limb, as by hand, by a number of at least 2 limbs that is not longer than a.
func divideLong(a, b []int) (quotient, rest []int) {
	// Both are multiplied until the highest bit of the divisor is 1: only then is each guess good. The quotient stays the same.
	factor := 1 << (api.LimbBits - bits.Len(uint(b[len(b)-1])))
	divisor := scale(slices.Clone(b), factor, 0)
	rest = append(scale(slices.Clone(a), factor, 0), 0)
	quotient = make([]int, len(a)-len(b)+1)
	for i := range slices.Backward(quotient) {
		quotient[i] = takeOut(rest[i:i+len(b)+1], divisor)
	}
	shrink(rest, factor)
	return quotient, rest
}

// takeOut returns how many times divisor is in part, less than 2^24 times, and leaves the rest in part, which has one limb more than divisor.
func takeOut(part, divisor []int) int {
	times := guess(part, divisor)
	if addTimes(part, divisor, -times) < 0 {
		addTimes(part, divisor, 1)
		times--
	}
	return times
}

// guess divides the highest three limbs of part by the highest two of divisor. That is never less than the quotient of part and divisor, and at most 1 more, because the two have 48 bits.
func guess(part, divisor []int) int {
	n := len(divisor)
	high := uint64(part[n])<<api.LimbBits | uint64(part[n-1])
	low := high<<api.LimbBits | uint64(part[n-2])
	top := uint64(divisor[n-1])<<api.LimbBits | uint64(divisor[n-2])
	times, _ := bits.Div64(high>>(64-api.LimbBits), low, top)
	return min(int(times), limbMask)
}

// addTimes adds divisor to part so many times, and returns the highest limb of part, which is negative if part is.
func addTimes(part, divisor []int, times int) int {
	carry := 0
	for i, limb := range divisor {
		carry += part[i] + times*limb
		part[i] = carry & limbMask
		carry >>= api.LimbBits
	}
	part[len(divisor)] += carry
	return part[len(divisor)]
}
