package nat_test

import (
	"math/big"
	"math/rand"
	"memfault/api"
	"memfault/nat"
	"slices"
	"testing"
)

const top = 1<<api.LimbBits - 1

// of makes a number of its limbs, the lowest first.
func of(limbs ...int) api.Nat { return api.Nat{Limbs: limbs} }

// filled makes a number of n limbs that are all the same.
func filled(n, limb int) api.Nat {
	return api.Nat{Limbs: slices.Repeat([]int{limb}, n)}
}

// greatest is the greatest valid number, 2^4800 - 1.
func greatest() api.Nat { return filled(api.MaxLimbs, top) }

// bit is the number 2^k.
func bit(k int) api.Nat {
	limbs := make([]int, k/api.LimbBits+1)
	limbs[k/api.LimbBits] = 1 << (k % api.LimbBits)
	return api.Nat{Limbs: limbs}
}

// toBig is the value of a number.
func toBig(a api.Nat) *big.Int {
	value := new(big.Int)
	for i := len(a.Limbs) - 1; i >= 0; i-- {
		value.Lsh(value, api.LimbBits)
		value.Add(value, big.NewInt(int64(a.Limbs[i])))
	}
	return value
}

// wantBig checks a result of a function that can only fail because of MaxLimbs.
func wantBig(t *testing.T, what string, got api.Nat, err api.Errno, want *big.Int) {
	t.Helper()
	switch {
	case want.BitLen() > api.LimbBits*api.MaxLimbs:
		wantError(t, what, got, err, api.ErrLimit)
	case err != api.OK:
		t.Errorf("%s: error %d, want %.60s", what, err, want)
	case !nat.Valid(got):
		t.Errorf("%s: not valid: %v", what, got.Limbs)
	case toBig(got).Cmp(want) != 0:
		t.Errorf("%s: %.60s, want %.60s", what, toBig(got), want)
	}
}

// wantError checks an error, and that the result beside it is the zero value.
func wantError(t *testing.T, what string, got api.Nat, err, want api.Errno) {
	t.Helper()
	if err != want || len(got.Limbs) != 0 {
		t.Errorf("%s: %d limbs and error %d, want none and %d", what, len(got.Limbs), err, want)
	}
}

// invalid are numbers that are not valid, each for one reason alone.
func invalid() map[string]api.Nat {
	return map[string]api.Nat{
		"zero with a limb":     of(0),
		"a highest limb of 0":  of(5, 0),
		"a negative limb":      of(-1),
		"a low negative limb":  of(-1, 1),
		"a limb of 2^24":       of(1 << api.LimbBits),
		"a low limb of 2^24":   of(1<<api.LimbBits, 1),
		"a limb in the middle": of(1, -7, 1),
		"a limb of 2^62":       of(1 << 62),
		"201 limbs":            filled(api.MaxLimbs+1, 1),
		"a million limbs":      filled(1_000_000, top),
		"the least int":        of(-1 << 63),
	}
}

// samples are valid numbers: those at the edges, and random ones whose limbs are often at an edge, too.
func samples() []api.Nat {
	list := []api.Nat{
		{}, {Limbs: []int{}}, of(1), of(2), of(10), of(top), of(0, 1), of(1, 1), of(top, top), of(0, 0, 1),
		bit(61), bit(62), bit(63), bit(2399), bit(2400), bit(4775), bit(4776), bit(4799),
		filled(100, top), filled(101, top), filled(api.MaxLimbs-1, top), greatest(),
		// Divisors and numbers for which the first guess of a limb of the quotient is 1 too high.
		of(1, 0, 1<<23), of(1, 0, 0, 1), of(0, 0, 1<<23, 2), of(top, 0, 1<<23), of(top-1, 0, 0, 1<<23),
	}
	random := rand.New(rand.NewSource(1))
	for range 60 {
		list = append(list, randomNat(random))
	}
	return list
}

func randomNat(random *rand.Rand) api.Nat {
	lengths := []int{1, 2, 3, 4, 5, 8, 50, 99, 100, 101, 150, 199, 200}
	limbs := make([]int, lengths[random.Intn(len(lengths))])
	edges := []int{0, 0, 1, top, top - 1, 1 << 23, 1<<23 - 1}
	for i := range limbs {
		limbs[i] = random.Intn(top + 1)
		if random.Intn(3) > 0 {
			limbs[i] = edges[random.Intn(len(edges))]
		}
	}
	if last := len(limbs) - 1; limbs[last] == 0 {
		limbs[last] = 1
	}
	return api.Nat{Limbs: limbs}
}
