package ratio_test

import (
	"memfault/api"
	"memfault/ratio"
	"testing"
)

// limitCase is a calculation in which just one of the numbers that P2.2 names is too long, or the greatest one that is not.
type limitCase struct {
	name, what string
	a, b       api.Ratio
	err        api.Errno
}

func checkLimits(t *testing.T, list []limitCase) {
	t.Helper()
	for _, x := range list {
		if !ratio.Valid(x.a) || !ratio.Valid(x.b) {
			t.Fatalf("%s, %s: the fractions are not valid", x.name, x.what)
		}
		value, want := expected(x.name, toRat(x.a), toRat(x.b))
		if want != x.err {
			t.Fatalf("%s, %s: the case gives the error %d, not %d", x.name, x.what, want, x.err)
		}
		got, err := calculations[x.name](x.a, x.b)
		if x.err != api.OK {
			wantError(t, x.name+", "+x.what, got, err, x.err)
		} else {
			wantValue(t, x.name+", "+x.what, got, err, value)
		}
	}
}

func TestLimitsOfSums(t *testing.T) {
	top := fraction(bit(4799), one)
	below := fraction(plus(bit(4799), -1), one)
	checkLimits(t, []limitCase{
		{"Add", "Num of a times Den of b the greatest less 1", fraction(plus(greatestNumber(), -1), one), small(1, 1), api.OK},
		{"Add", "Num of a times Den of b too long", top, small(1, 2), api.ErrLimit},
		{"Add", "Num of b times Den of a too long", small(1, 2), top, api.ErrLimit},
		{"Add", "Num of a times Den of b too long, the answer not", fraction(bit(2401), low), fraction(one, low), api.ErrLimit},
		{"Add", "Num of b times Den of a too long, the answer not", fraction(one, low), fraction(bit(2401), low), api.ErrLimit},
		{"Add", "Den times Den the longest", fraction(one, bit(2400)), fraction(one, bit(2399)), api.OK},
		{"Add", "Den times Den the greatest", fraction(one, low), fraction(one, high), api.OK},
		{"Add", "Den times Den too long, the answer not", fraction(one, bit(2400)), fraction(one, bit(2400)), api.ErrLimit},
		{"Add", "0 and a Den times Den that is the greatest", small(0, 1), fraction(one, greatestNumber()), api.OK},
		{"Add", "the sum the greatest", top, below, api.OK},
		{"Add", "the sum 2^4800", top, top, api.ErrLimit},
		{"Add", "the sum 2^4800, of the greatest and 1", fraction(greatestNumber(), one), small(1, 1), api.ErrLimit},
		{"Add", "the sum too long, the answer not", fraction(bit(2400), low), fraction(bit(2400), low), api.ErrLimit},
		{"Sub", "no sum is too long", fraction(bit(2400), low), fraction(bit(2400), low), api.OK},
		{"Sub", "whole numbers", top, top, api.OK},
		{"Sub", "whole numbers, the lesser first", below, top, api.ErrNegative},
		{"Sub", "Num of a times Den of b too long", top, small(1, 2), api.ErrLimit},
		{"Sub", "Num of a times Den of b too long, the answer not", fraction(bit(2401), low), fraction(one, low), api.ErrLimit},
		{"Sub", "Den times Den the longest", fraction(one, bit(2399)), fraction(one, bit(2400)), api.OK},
		{"Sub", "Den times Den the greatest", fraction(one, low), fraction(one, high), api.OK},
		{"Sub", "Den times Den too long, the answer 0", fraction(one, bit(2400)), fraction(one, bit(2400)), api.ErrLimit},
		{"Sub", "Den times Den too long, the answer not", fraction(three, bit(2400)), fraction(one, bit(2400)), api.ErrLimit},
	})
}

// Where Sub could say both, it says ErrLimit, whichever product is too long.
func TestLimitBeforeNegative(t *testing.T) {
	checkLimits(t, []limitCase{
		{"Sub", "Num of b times Den of a too long", fraction(one, low), fraction(bit(2401), low), api.ErrLimit},
		{"Sub", "Num of b times Den of a too long for whole b", small(1, 2), fraction(bit(4799), one), api.ErrLimit},
		{"Sub", "Den times Den too long", fraction(one, bit(2400)), fraction(three, bit(2400)), api.ErrLimit},
		{"Sub", "both cross products too long", fraction(bit(2401), low), fraction(bit(2402), low), api.ErrLimit},
		{"Sub", "nothing too long: Den times Den the greatest", fraction(one, high), fraction(one, low), api.ErrNegative},
	})
}

func TestLimitsOfProducts(t *testing.T) {
	threes := power(3, 1515) // a little more than 2^2400
	checkLimits(t, []limitCase{
		{"Mul", "Num times Num the longest", fraction(bit(2400), one), fraction(bit(2399), one), api.OK},
		{"Mul", "Num times Num the greatest", fraction(low, one), fraction(high, one), api.OK},
		{"Mul", "Num times Num 2^4800", fraction(bit(2400), one), fraction(bit(2400), one), api.ErrLimit},
		{"Mul", "Num times Num too long, the answer not", fraction(bit(2400), power(3, 1000)), fraction(threes, one), api.ErrLimit},
		{"Mul", "Den times Den the longest", fraction(one, bit(2400)), fraction(one, bit(2399)), api.OK},
		{"Mul", "Den times Den the greatest", fraction(one, low), fraction(one, high), api.OK},
		{"Mul", "Den times Den 2^4800", fraction(one, bit(2400)), fraction(one, bit(2400)), api.ErrLimit},
		{"Mul", "Den times Den too long, the answer not", fraction(power(3, 1000), bit(2400)), fraction(one, threes), api.ErrLimit},
		{"Mul", "both too long, the answer 1", fraction(bit(2400), threes), fraction(threes, bit(2400)), api.ErrLimit},
		{"Mul", "both the longest, the answer 1", fraction(bit(2399), low), fraction(low, bit(2399)), api.OK},
		{"Mul", "0 and the least fraction", small(0, 1), fraction(one, greatestNumber()), api.OK},
		{"Divide", "Num of a times Den of b the longest", fraction(bit(2400), one), fraction(one, bit(2399)), api.OK},
		{"Divide", "Num of a times Den of b the greatest", fraction(low, one), fraction(one, high), api.OK},
		{"Divide", "Num of a times Den of b 2^4800", fraction(bit(2400), one), fraction(one, bit(2400)), api.ErrLimit},
		{"Divide", "Num of a times Den of b too long, the answer not", fraction(bit(2400), power(3, 1000)), fraction(one, threes), api.ErrLimit},
		{"Divide", "Den of a times Num of b the longest", fraction(one, bit(2400)), fraction(bit(2399), one), api.OK},
		{"Divide", "Den of a times Num of b the greatest", fraction(one, low), fraction(high, one), api.OK},
		{"Divide", "Den of a times Num of b 2^4800", fraction(one, bit(2400)), fraction(bit(2400), one), api.ErrLimit},
		{"Divide", "Den of a times Num of b too long, the answer not", fraction(power(3, 1000), bit(2400)), fraction(threes, one), api.ErrLimit},
		{"Divide", "both too long, the answer 1", fraction(bit(2400), threes), fraction(bit(2400), threes), api.ErrLimit},
		{"Divide", "only Num times Num and Den times Den too long", fraction(bit(2401), low), fraction(bit(2399), bitAndOne(2398)), api.OK},
		{"Divide", "whole numbers", fraction(bit(4799), one), fraction(greatestNumber(), one), api.OK},
		{"Divide", "0 and the greatest number", small(0, 1), fraction(greatestNumber(), one), api.OK},
		{"Divide", "a quotient of the greatest number by 0", fraction(greatestNumber(), one), small(0, 1), api.ErrZero},
	})
}
