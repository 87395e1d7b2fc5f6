package nat

import (
	"memfault/api"
	"slices"
)

// within makes a number of limbs that may be too many, or end with zeros.
func within(limbs []int) (api.Nat, api.Errno) {
	limbs = trim(limbs)
	if len(limbs) > api.MaxLimbs {
		return api.Nat{}, api.ErrLimit
	}
	return api.Nat{Limbs: limbs}, api.OK
}

// trim drops the highest limbs that are 0.
func trim(limbs []int) []int {
	for i, limb := range slices.Backward(limbs) {
		if limb != 0 {
			return limbs[:i+1]
		}
	}
	return nil
}

// limbAt returns limb i; a number has zeros above its highest limb.
func limbAt(limbs []int, i int) int {
	if i < len(limbs) {
		return limbs[i]
	}
	return 0
}

// scale changes limbs into limbs times factor plus addend, both less than 2^24.
func scale(limbs []int, factor, addend int) []int {
	carry := addend
	for i, limb := range limbs {
		carry += limb * factor
		limbs[i] = carry & limbMask
		carry >>= api.LimbBits
	}
	if carry > 0 {
		limbs = append(limbs, carry)
	}
	return limbs
}

// shrink changes limbs into their quotient by divisor, which is from 1 to 2^38, and returns the rest.
func shrink(limbs []int, divisor int) int {
	rest := 0
	for i, limb := range slices.Backward(limbs) {
		rest = rest<<api.LimbBits | limb
		limbs[i] = rest / divisor
		rest %= divisor
	}
	return rest
}
