package chance

import (
	"memfault/api"
	"memfault/nat"
)

// values is the number of values of a byte.
const values = 256

// No number of this layer has more than a few hundred bits, far fewer than the limit: the functions of nat refuse none of them.

// number returns the number n, which is not negative.
func number(n int) api.Nat {
	a, _ := nat.Of(n)
	return a
}

// plus returns the sum of a and b.
func plus(a, b api.Nat) api.Nat {
	sum, _ := nat.Add(a, b)
	return sum
}

// product returns the product of all factors.
func product(factors ...api.Nat) api.Nat {
	all := number(1)
	for _, factor := range factors {
		all, _ = nat.Mul(all, factor)
	}
	return all
}

// power returns base to the power of n.
func power(base, n int) api.Nat {
	a, _ := nat.Power(number(base), n)
	return a
}

// choose returns the number of sets of k out of n things: 0 for a negative n, too, which nat.Choose refuses.
func choose(n, k int) api.Nat {
	sets, _ := nat.Choose(n, k)
	return sets
}

// alternating returns term(0) - term(1) + term(2) and so on, up to term(last): a count, which is not negative.
func alternating(last int, term func(k int) api.Nat) api.Nat {
	var even, odd api.Nat
	for k := range last + 1 {
		if k%2 == 0 {
			even = plus(even, term(k))
		} else {
			odd = plus(odd, term(k))
		}
	}
	difference, _ := nat.Sub(even, odd)
	return difference
}
