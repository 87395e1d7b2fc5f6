// Package nat is layer 1: natural numbers. See shared/doc/01-nat.md.
package nat

import (
	"cmp"
	"memfault/api"
	"slices"
)

const (
	limbMask = 1<<api.LimbBits - 1
	// greatestInt is the greatest value that Int gives out.
	greatestInt = 1 << 62
)

// Valid reports whether a is the one form in which its value is written.
func Valid(a api.Nat) bool {
	n := len(a.Limbs)
	if n > api.MaxLimbs || n > 0 && a.Limbs[n-1] == 0 {
		return false
	}
	for _, limb := range a.Limbs {
		if limb < 0 || limb > limbMask {
			return false
		}
	}
	return true
}

// Of returns the number n.
func Of(n int) (api.Nat, api.Errno) {
	if n < 0 {
		return api.Nat{}, api.ErrRange
	}
	var limbs []int
	for ; n > 0; n >>= api.LimbBits {
		limbs = append(limbs, n&limbMask)
	}
	return api.Nat{Limbs: limbs}, api.OK
}

// Int returns the value of a, if it is at most 2^62.
func Int(a api.Nat) (int, api.Errno) {
	if !Valid(a) {
		return 0, api.ErrInvalid
	}
	if greatest, _ := Of(greatestInt); Cmp(a, greatest) > 0 {
		return 0, api.ErrLimit
	}
	value := 0
	for _, limb := range slices.Backward(a.Limbs) {
		value = value<<api.LimbBits | limb
	}
	return value, api.OK
}

// Cmp compares valid numbers. It relies on the highest limb not being 0: the longer number is the greater one.
func Cmp(a, b api.Nat) int {
	if c := cmp.Compare(len(a.Limbs), len(b.Limbs)); c != 0 {
		return c
	}
	for i, limb := range slices.Backward(a.Limbs) {
		if c := cmp.Compare(limb, b.Limbs[i]); c != 0 {
			return c
		}
	}
	return 0
}
