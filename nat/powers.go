package nat

import (
	"math/bits"
	"memfault/api"
)

const (
	// maxExponent is the greatest exponent of Power: the bits of the longest number.
	maxExponent = 4800
	// maxThings is the greatest number of things of Choose: no choice of so many has too many limbs.
	maxThings = 4096
)

// Power returns a to the power of n.
func Power(a api.Nat, n int) (api.Nat, api.Errno) {
	if !Valid(a) {
		return api.Nat{}, api.ErrInvalid
	}
	if n < 0 || n > maxExponent {
		return api.Nat{}, api.ErrRange
	}
	power := api.Nat{Limbs: []int{1}}
	// From the highest bit of n down each number on the way is a power of a to at most n: none is too long unless the result is.
	length := bits.Len(uint(n))
	for i := range length {
		var err api.Errno
		if power, err = Mul(power, power); err != api.OK {
			return api.Nat{}, err
		}
		if n>>(length-1-i)&1 == 0 {
			continue
		}
		if power, err = Mul(power, a); err != api.OK {
			return api.Nat{}, err
		}
	}
	return power, api.OK
}

// Choose returns the number of sets of k out of n things.
func Choose(n, k int) (api.Nat, api.Errno) {
	if n < 0 || n > maxThings {
		return api.Nat{}, api.ErrRange
	}
	if k < 0 || k > n {
		return api.Nat{}, api.OK
	}
	sets := []int{1}
	for i := range min(k, n-k) {
		// Choose(n, i + 1) is Choose(n, i) (n - i) / (i + 1), without a rest.
		sets = scale(sets, n-i, 0)
		shrink(sets, i+1)
		sets = trim(sets)
	}
	return api.Nat{Limbs: sets}, api.OK
}
