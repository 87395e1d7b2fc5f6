package ratio_test

import (
	"math/big"
	"math/rand"
	"memfault/api"
	"memfault/nat"
	"slices"
	"testing"
)

// greatestBits is the number of bits of the greatest number.
const greatestBits = api.LimbBits * api.MaxLimbs

// of makes a number of its limbs, the lowest first.
func of(limbs ...int) api.Nat { return api.Nat{Limbs: limbs} }

// power is base to the power of n.
func power(base, n int) *big.Int {
	return new(big.Int).Exp(big.NewInt(int64(base)), big.NewInt(int64(n)), nil)
}

// bit is the number 2^n.
func bit(n int) *big.Int { return power(2, n) }

// bitAndOne is 2^n + 1.
func bitAndOne(n int) *big.Int { return plus(bit(n), 1) }

// greatestNumber is 2^4800 - 1.
func greatestNumber() *big.Int { return plus(bit(greatestBits), -1) }

// plus is a + n; n may be negative.
func plus(a *big.Int, n int64) *big.Int { return new(big.Int).Add(a, big.NewInt(n)) }

// times is the product of a and b.
func times(a, b *big.Int) *big.Int { return new(big.Int).Mul(a, b) }

var one, two, three = big.NewInt(1), big.NewInt(2), big.NewInt(3)

// The greatest number is the product of low and high; low times 2^2400 is a little less, and twice that is too long.
var low, high = plus(bit(2400), -1), bitAndOne(2400)

// fits reports whether a has at most MaxLimbs limbs.
func fits(a *big.Int) bool { return a.BitLen() <= greatestBits }

// toNat makes a number that has a value; the value has to fit.
func toNat(value *big.Int) api.Nat {
	var limbs []int
	for rest := new(big.Int).Set(value); rest.Sign() > 0; rest.Rsh(rest, api.LimbBits) {
		limbs = append(limbs, int(rest.Uint64()&(1<<api.LimbBits-1)))
	}
	return api.Nat{Limbs: limbs}
}

// toBig is the value of a number.
func toBig(a api.Nat) *big.Int {
	value := new(big.Int)
	for _, limb := range slices.Backward(a.Limbs) {
		value.Lsh(value, api.LimbBits)
		value.Add(value, big.NewInt(int64(limb)))
	}
	return value
}

// fraction makes a fraction as it stands, without reducing it.
func fraction(num, den *big.Int) api.Ratio {
	return api.Ratio{Num: toNat(num), Den: toNat(den)}
}

// small makes a fraction of small numbers as it stands.
func small(num, den int64) api.Ratio { return fraction(big.NewInt(num), big.NewInt(den)) }

// reduced makes the fraction in lowest terms.
func reduced(num, den *big.Int) api.Ratio {
	value := new(big.Rat).SetFrac(num, den)
	return fraction(value.Num(), value.Denom())
}

// toRat is the value of a fraction whose Den is not 0.
func toRat(a api.Ratio) *big.Rat { return new(big.Rat).SetFrac(toBig(a.Num), toBig(a.Den)) }

// text shortens a fraction for a message.
func text(a api.Ratio) string {
	num, den := toBig(a.Num).Text(16), toBig(a.Den).Text(16)
	return num[:min(24, len(num))] + "/" + den[:min(24, len(den))]
}

// wantValue checks a fraction: big.Rat keeps its numbers in lowest terms, so the form is checked, too.
func wantValue(t *testing.T, what string, got api.Ratio, err api.Errno, want *big.Rat) {
	t.Helper()
	if err != api.OK || !nat.Valid(got.Num) || !nat.Valid(got.Den) || toBig(got.Num).Cmp(want.Num()) != 0 || toBig(got.Den).Cmp(want.Denom()) != 0 {
		t.Errorf("%s: %s and error %d, want %.50s", what, text(got), err, want)
	}
}

// wantError checks an error, and that the result beside it is the zero value.
func wantError(t *testing.T, what string, got api.Ratio, err, want api.Errno) {
	t.Helper()
	if err != want || len(got.Num.Limbs)+len(got.Den.Limbs) > 0 {
		t.Errorf("%s: %s and error %d, want none and %d", what, text(got), err, want)
	}
}

// same compares two results of the same kind.
func same(a, b api.Ratio) bool {
	return slices.Equal(a.Num.Limbs, b.Num.Limbs) && slices.Equal(a.Den.Limbs, b.Den.Limbs)
}

// badNumbers are numbers that are not valid, each for one reason alone.
func badNumbers() map[string]api.Nat {
	return map[string]api.Nat{
		"zero with a limb":    of(0),
		"a highest limb of 0": of(5, 0),
		"a negative limb":     of(-1),
		"a limb of 2^24":      of(1 << api.LimbBits),
		"a low limb of 2^24":  of(1<<api.LimbBits, 1),
		"201 limbs":           {Limbs: slices.Repeat([]int{1}, api.MaxLimbs+1)},
	}
}

// invalid are fractions that are not valid, each for one reason alone.
func invalid() map[string]api.Ratio {
	long, other := power(6, 700), times(power(3, 900), power(5, 900))
	list := map[string]api.Ratio{
		"the zero value":           {},
		"1/0":                      small(1, 0),
		"7/0":                      small(7, 0),
		"the greatest by 0":        fraction(greatestNumber(), new(big.Int)),
		"0/2":                      small(0, 2),
		"0 by the greatest":        fraction(new(big.Int), greatestNumber()),
		"2/2":                      small(2, 2),
		"2/4":                      small(2, 4),
		"6/4":                      small(6, 4),
		"15/35":                    small(15, 35),
		"2^24/2^24":                fraction(bit(24), bit(24)),
		"2^4799/2":                 fraction(bit(4799), two),
		"2/2^4799":                 fraction(two, bit(4799)),
		"long ones with a divisor": fraction(long, other),
		"the greatest by itself":   fraction(greatestNumber(), greatestNumber()),
	}
	for what, bad := range badNumbers() {
		list["Num "+what] = api.Ratio{Num: bad, Den: of(1)}
		list["Den "+what] = api.Ratio{Num: of(1), Den: bad}
		list["Num and Den "+what] = api.Ratio{Num: bad, Den: bad}
		list["0 by "+what] = api.Ratio{Den: bad}
	}
	return list
}

// samples are valid fractions: small ones, those at the edges, and random ones.
func samples() []api.Ratio {
	greatest := greatestNumber()
	list := []api.Ratio{
		small(0, 1), small(1, 1), small(2, 1), small(1, 2), small(3, 2), small(2, 3), small(1, 3), small(5, 6), small(7, 12), small(1, 255),
		small(1<<24-1, 1<<24), small(1<<24, 1<<24-1), small(1<<62, 3), small(3, 1<<62),
		fraction(bit(2400), one), fraction(one, bit(2400)), fraction(bit(2400), three), fraction(three, bit(2400)), fraction(bit(2399), one), fraction(one, bit(2399)),
		fraction(bit(4799), one), fraction(one, bit(4799)), fraction(greatest, one), fraction(one, greatest), fraction(greatest, two), fraction(two, greatest),
		fraction(plus(bit(2400), -1), bit(2400)), fraction(bit(2400), plus(bit(2400), -1)), fraction(plus(bit(2400), 1), plus(bit(2400), -1)),
	}
	random := rand.New(rand.NewSource(2))
	for _, limbs := range []int{1, 2, 3, 10, 30, 99, 100, 101, 150, 200} {
		list = append(list, reduced(randomNumber(random, limbs), randomNumber(random, limbs)), reduced(randomNumber(random, limbs), randomNumber(random, 1)), reduced(randomNumber(random, 2), randomNumber(random, limbs)))
	}
	return list
}

// randomNumber is a number from 1 on with at most so many limbs.
func randomNumber(random *rand.Rand, limbs int) *big.Int {
	return plus(new(big.Int).Rand(random, plus(bit(api.LimbBits*limbs), -1)), 1)
}

// pairs goes through all pairs of short samples, and through some of those in which one is long: their divisors take long to find.
func pairs(list []api.Ratio) func(yield func(a, b api.Ratio) bool) {
	return func(yield func(a, b api.Ratio) bool) {
		for i, a := range list {
			for j, b := range list {
				if (isLong(a) || isLong(b)) && (i+j)%7 > 0 {
					continue
				}
				if !yield(a, b) {
					return
				}
			}
		}
	}
}

func isLong(a api.Ratio) bool { return min(len(a.Num.Limbs), len(a.Den.Limbs)) > 50 }
