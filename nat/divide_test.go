package nat_test

import (
	"math/big"
	"memfault/api"
	"memfault/nat"
	"testing"
)

// The quotient times b and the rest are a, and the rest is less than b.
func TestDivide(t *testing.T) {
	list := samples()
	for _, a := range list {
		for _, b := range list {
			quotient, rest, err := nat.Divide(a, b)
			if len(b.Limbs) == 0 {
				wantError(t, "quotient by 0", quotient, err, api.ErrZero)
				wantError(t, "rest by 0", rest, err, api.ErrZero)
				continue
			}
			q, r := new(big.Int).QuoRem(toBig(a), toBig(b), new(big.Int))
			wantBig(t, "quotient", quotient, err, q)
			wantBig(t, "rest", rest, err, r)
			product, err := nat.Mul(quotient, b)
			back, code := nat.Add(product, rest)
			if err != api.OK || code != api.OK || nat.Cmp(back, a) != 0 || nat.Cmp(rest, b) >= 0 {
				t.Errorf("%v by %v: %v and %v", a.Limbs, b.Limbs, quotient.Limbs, rest.Limbs)
			}
		}
	}
}

// A number that is 1 less than a multiple has the greatest rest: here the guess of a limb from its highest limbs is often 1 too high.
func TestDivideBelowMultiples(t *testing.T) {
	divisors := []api.Nat{of(3), of(top), of(0, 1), of(1, 1<<23), of(top, top), of(1, 0, 1<<23), of(top, 0, 1<<23), of(1, 0, 1), of(top, 1<<23-1, 5), of(9, 0, 0, 0, 1<<23), filled(90, top)}
	factors := []api.Nat{of(1), of(2), of(5), of(1 << 23), of(top), of(0, 1), of(top, top), of(7, 0, 1), of(3, top, top), filled(100, top)}
	for _, b := range divisors {
		for _, f := range factors {
			product, err := nat.Mul(b, f)
			a, code := nat.Sub(product, of(1))
			quotient, rest, fail := nat.Divide(a, b)
			if err != api.OK || code != api.OK || fail != api.OK {
				t.Fatalf("errors %d, %d, %d", err, code, fail)
			}
			wantBig(t, "quotient", quotient, fail, new(big.Int).Sub(toBig(f), big.NewInt(1)))
			wantBig(t, "rest", rest, fail, new(big.Int).Sub(toBig(b), big.NewInt(1)))
			quotient, rest, fail = nat.Divide(product, b)
			wantBig(t, "quotient", quotient, fail, toBig(f))
			wantBig(t, "rest", rest, fail, new(big.Int))
		}
	}
}

func TestGcd(t *testing.T) {
	list := samples()
	for i, a := range list {
		// Long numbers take many steps: a third of the pairs will do.
		for j := i % 3; j < len(list); j += 3 {
			b := list[j]
			got, err := nat.Gcd(a, b)
			wantBig(t, "Gcd", got, err, new(big.Int).GCD(nil, nil, toBig(a), toBig(b)))
		}
	}
	for _, x := range []struct{ a, b, want int }{{0, 0, 0}, {0, 7, 7}, {7, 0, 7}, {1, 9, 1}, {48, 36, 12}, {17, 5, 1}, {64, 64, 64}} {
		a, _ := nat.Of(x.a)
		b, _ := nat.Of(x.b)
		got, err := nat.Gcd(a, b)
		wantBig(t, "Gcd", got, err, big.NewInt(int64(x.want)))
	}
}

// Neighbours among the Fibonacci numbers take the most steps.
func TestGcdLongest(t *testing.T) {
	a, b := of(1), of(1)
	for {
		next, err := nat.Add(a, b)
		if err != api.OK {
			break
		}
		a, b = b, next
	}
	got, err := nat.Gcd(a, b)
	wantBig(t, "Gcd", got, err, big.NewInt(1))
}

// A common factor is found among long numbers.
func TestGcdOfMultiples(t *testing.T) {
	factor, _ := nat.Power(of(6), 500)
	p, _ := nat.Power(of(5), 700)
	q, _ := nat.Power(of(7), 600)
	a, err := nat.Mul(factor, p)
	b, code := nat.Mul(factor, q)
	if err != api.OK || code != api.OK {
		t.Fatalf("errors %d, %d", err, code)
	}
	got, err := nat.Gcd(a, b)
	wantBig(t, "Gcd", got, err, toBig(factor))
}
