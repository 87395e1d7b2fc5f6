package ratio

import (
	"memfault/api"
	"memfault/nat"
)

// Add returns the sum of a and b.
func Add(a, b api.Ratio) (api.Ratio, api.Errno) {
	return combine(a, b, nat.Add)
}

// Sub returns a less b.
func Sub(a, b api.Ratio) (api.Ratio, api.Errno) {
	return combine(a, b, nat.Sub)
}

// Mul returns the product of a and b.
func Mul(a, b api.Ratio) (api.Ratio, api.Errno) {
	if !Valid(a) || !Valid(b) {
		return api.Ratio{}, api.ErrInvalid
	}
	return product(a, b)
}

// Divide returns the quotient of a and b.
func Divide(a, b api.Ratio) (api.Ratio, api.Errno) {
	if !Valid(a) || !Valid(b) {
		return api.Ratio{}, api.ErrInvalid
	}
	if isZero(b.Num) {
		return api.Ratio{}, api.ErrZero
	}
	return product(a, api.Ratio{Num: b.Den, Den: b.Num})
}

// combine joins a and b over the product of their Dens. That is not the least common one: P2.2 sets the limit for this product. The numbers are joined last, because ErrLimit of any product comes before an error of join.
func combine(a, b api.Ratio, join func(a, b api.Nat) (api.Nat, api.Errno)) (api.Ratio, api.Errno) {
	left, right, err := crosswise(a, b)
	if err != api.OK {
		return api.Ratio{}, err
	}
	den, err := nat.Mul(a.Den, b.Den)
	if err != api.OK {
		return api.Ratio{}, err
	}
	num, err := join(left, right)
	if err != api.OK {
		return api.Ratio{}, err
	}
	return Make(num, den)
}

// crosswise returns Num of a times Den of b, and Num of b times Den of a: a and b compare as these do.
func crosswise(a, b api.Ratio) (left, right api.Nat, err api.Errno) {
	if !Valid(a) || !Valid(b) {
		return api.Nat{}, api.Nat{}, api.ErrInvalid
	}
	if left, err = nat.Mul(a.Num, b.Den); err != api.OK {
		return api.Nat{}, api.Nat{}, err
	}
	if right, err = nat.Mul(b.Num, a.Den); err != api.OK {
		return api.Nat{}, api.Nat{}, err
	}
	return left, right, api.OK
}

// product multiplies valid fractions. It does not reduce them against each other first: P2.2 sets the limit for the whole products.
func product(a, b api.Ratio) (api.Ratio, api.Errno) {
	num, err := nat.Mul(a.Num, b.Num)
	if err != api.OK {
		return api.Ratio{}, err
	}
	den, err := nat.Mul(a.Den, b.Den)
	if err != api.OK {
		return api.Ratio{}, err
	}
	return Make(num, den)
}
