package ratio_test

import (
	"math/big"
	"memfault/api"
	"memfault/ratio"
	"testing"
)

// do is the result of a calculation that meets no limit.
func do(t *testing.T, f calculation, a, b api.Ratio) api.Ratio {
	t.Helper()
	got, err := f(a, b)
	if err != api.OK {
		t.Fatalf("error %d of %s and %s", err, text(a), text(b))
	}
	return got
}

func wantSame(t *testing.T, law string, a, b api.Ratio) {
	t.Helper()
	if !same(a, b) {
		t.Errorf("%s: %s is not %s", law, text(a), text(b))
	}
}

// lawful are fractions of which three or four can be multiplied without meeting a limit.
func lawful() []api.Ratio {
	return []api.Ratio{
		small(0, 1), small(1, 1), small(4, 1), small(1, 2), small(5, 6), small(7, 3), small(1, 255), small(1<<24, 3<<20-1), small(1<<62-1, 1<<61),
		fraction(power(3, 100), bit(200)), fraction(power(10, 200), power(7, 150)), reduced(plus(bit(480), -1), bitAndOne(700)),
	}
}

func TestLawsOfTwo(t *testing.T) {
	zero, unit := small(0, 1), small(1, 1)
	for _, a := range lawful() {
		wantSame(t, "a + 0", do(t, ratio.Add, a, zero), a)
		wantSame(t, "a - 0", do(t, ratio.Sub, a, zero), a)
		wantSame(t, "a - a", do(t, ratio.Sub, a, a), zero)
		wantSame(t, "a times 1", do(t, ratio.Mul, a, unit), a)
		wantSame(t, "a times 0", do(t, ratio.Mul, a, zero), zero)
		wantSame(t, "a by 1", do(t, ratio.Divide, a, unit), a)
		for _, b := range lawful() {
			sum, product := do(t, ratio.Add, a, b), do(t, ratio.Mul, a, b)
			wantSame(t, "a + b = b + a", sum, do(t, ratio.Add, b, a))
			wantSame(t, "a b = b a", product, do(t, ratio.Mul, b, a))
			wantSame(t, "(a + b) - b = a", do(t, ratio.Sub, sum, b), a)
			if !same(b, zero) {
				wantSame(t, "(a b) / b = a", do(t, ratio.Divide, product, b), a)
				wantSame(t, "(a / b) b = a", do(t, ratio.Mul, do(t, ratio.Divide, a, b), b), a)
			}
			checkOrder(t, a, b)
		}
	}
}

// checkOrder holds Cmp, Sub and Floor against each other.
func checkOrder(t *testing.T, a, b api.Ratio) {
	t.Helper()
	order, err := ratio.Cmp(a, b)
	back, code := ratio.Cmp(b, a)
	if err != api.OK || code != api.OK || order != -back || (order == 0) != same(a, b) {
		t.Errorf("Cmp(%s, %s): %d and %d the other way round", text(a), text(b), order, back)
	}
	if _, err := ratio.Sub(a, b); (err == api.ErrNegative) != (order < 0) {
		t.Errorf("%s - %s: error %d, but Cmp says %d", text(a), text(b), err, order)
	}
	floor, err := ratio.Floor(a)
	whole, code := ratio.Make(floor, of(1))
	if err != api.OK || code != api.OK {
		t.Fatalf("errors %d, %d", err, code)
	}
	rest := do(t, ratio.Sub, a, whole)
	if order, err := ratio.Cmp(rest, small(1, 1)); err != api.OK || order >= 0 {
		t.Errorf("Floor of %s leaves %s", text(a), text(rest))
	}
}

func TestLawsOfThree(t *testing.T) {
	for _, a := range lawful() {
		for _, b := range lawful() {
			for _, c := range lawful() {
				left, right := do(t, ratio.Add, do(t, ratio.Add, a, b), c), do(t, ratio.Add, a, do(t, ratio.Add, b, c))
				wantSame(t, "(a + b) + c = a + (b + c)", left, right)
				left, right = do(t, ratio.Mul, do(t, ratio.Mul, a, b), c), do(t, ratio.Mul, a, do(t, ratio.Mul, b, c))
				wantSame(t, "(a b) c = a (b c)", left, right)
				left, right = do(t, ratio.Mul, a, do(t, ratio.Add, b, c)), do(t, ratio.Add, do(t, ratio.Mul, a, b), do(t, ratio.Mul, a, c))
				wantSame(t, "a (b + c) = a b + a c", left, right)
			}
		}
	}
}

// Sums and products do not depend on the order, also where they are refused.
func TestOrderAtTheLimit(t *testing.T) {
	for a, b := range pairs(samples()) {
		for _, name := range []string{"Add", "Mul"} {
			left, err := calculations[name](a, b)
			right, code := calculations[name](b, a)
			if err != code || !same(left, right) {
				t.Errorf("%s of %s and %s: errors %d and %d", name, text(a), text(b), err, code)
			}
		}
	}
}

// A half, a quarter and so on add up to 1 less the last of them, until the product of the Dens is too long.
func TestLongSum(t *testing.T) {
	sum, term, half := small(0, 1), small(1, 1), small(1, 2)
	for range 2400 {
		term = do(t, ratio.Mul, term, half)
		sum = do(t, ratio.Add, sum, term)
	}
	wantValue(t, "the sum of 2400 terms", sum, api.OK, new(big.Rat).SetFrac(plus(bit(2400), -1), bit(2400)))
	term = do(t, ratio.Mul, term, half)
	beyond, err := ratio.Add(sum, term)
	wantError(t, "the sum of 2401 terms", beyond, err, api.ErrLimit)
}
