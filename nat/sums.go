package nat

import "memfault/api"

// Add returns the sum of a and b.
func Add(a, b api.Nat) (api.Nat, api.Errno) {
	if !Valid(a) || !Valid(b) {
		return api.Nat{}, api.ErrInvalid
	}
	sum := make([]int, max(len(a.Limbs), len(b.Limbs))+1)
	carry := 0
	for i := range sum {
		carry += limbAt(a.Limbs, i) + limbAt(b.Limbs, i)
		sum[i] = carry & limbMask
		carry >>= api.LimbBits
	}
	return within(sum)
}

// Sub returns a less b.
func Sub(a, b api.Nat) (api.Nat, api.Errno) {
	if !Valid(a) || !Valid(b) {
		return api.Nat{}, api.ErrInvalid
	}
	if Cmp(a, b) < 0 {
		return api.Nat{}, api.ErrNegative
	}
	difference := make([]int, len(a.Limbs))
	// The carry is 0 or -1: the shift rounds down, and so borrows.
	carry := 0
	for i, limb := range a.Limbs {
		carry += limb - limbAt(b.Limbs, i)
		difference[i] = carry & limbMask
		carry >>= api.LimbBits
	}
	return within(difference)
}

// Mul returns the product of a and b.
func Mul(a, b api.Nat) (api.Nat, api.Errno) {
	if !Valid(a) || !Valid(b) {
		return api.Nat{}, api.ErrInvalid
	}
	product := make([]int, len(a.Limbs)+len(b.Limbs))
	for i, x := range a.Limbs {
		carry := 0
		for j, y := range b.Limbs {
			carry += product[i+j] + x*y
			product[i+j] = carry & limbMask
			carry >>= api.LimbBits
		}
		product[i+len(b.Limbs)] = carry
	}
	return within(product)
}
