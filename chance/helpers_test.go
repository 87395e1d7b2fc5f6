package chance_test

import (
	"math/big"
	"memfault/api"
	"memfault/nat"
	"slices"
	"testing"
)

// code is a symbol code.
func code(data, checks, fix int) api.Code {
	return api.Code{Kind: api.CodeSymbols, Data: data, Checks: checks, Fix: fix}
}

// codes are all valid symbol codes with one of the given numbers of data bytes.
func codes(datas ...int) []api.Code {
	var list []api.Code
	for _, data := range datas {
		for checks := 1; checks <= 8; checks++ {
			for fix := 0; 2*fix <= checks; fix++ {
				list = append(list, code(data, checks, fix))
			}
		}
	}
	return list
}

// wrongCodes are codes that are not valid, or of the other kind.
func wrongCodes() []api.Code {
	list := []api.Code{
		{},
		{Kind: api.CodeBits, Data: 8, Checks: 1, Fix: 1},
		{Kind: api.CodeBits, Data: 4, Checks: 2, Fix: 1},
		{Kind: 0, Data: 4, Checks: 2, Fix: 1},
		{Kind: 3, Data: 4, Checks: 2, Fix: 1},
		{Kind: -1, Data: 4, Checks: 2, Fix: 1},
	}
	for _, sizes := range [][3]int{{0, 2, 1}, {-4, 2, 1}, {33, 2, 1}, {1 << 40, 2, 1}, {4, 0, 0}, {4, -2, 0}, {4, -2, -1}, {4, 9, 1}, {4, 1 << 40, 1}, {4, 2, -1}, {4, 1, 1}, {4, 2, 2}, {4, 8, 5}, {4, 8, 1 << 40}} {
		list = append(list, code(sizes[0], sizes[1], sizes[2]))
	}
	return list
}

// toBig is the value of a number; -1 if it is not valid.
func toBig(a api.Nat) *big.Int {
	if !nat.Valid(a) {
		return big.NewInt(-1)
	}
	value := new(big.Int)
	for _, limb := range slices.Backward(a.Limbs) {
		value.Lsh(value, api.LimbBits)
		value.Add(value, big.NewInt(int64(limb)))
	}
	return value
}

func times(a, b *big.Int) *big.Int { return new(big.Int).Mul(a, b) }

func power(base, n int) *big.Int {
	return new(big.Int).Exp(big.NewInt(int64(base)), big.NewInt(int64(n)), nil)
}

func choose(n, k int) *big.Int { return new(big.Int).Binomial(int64(n), int64(k)) }

// zeros are n numbers 0.
func zeros(n int) []*big.Int {
	list := make([]*big.Int, n)
	for k := range list {
		list[k] = new(big.Int)
	}
	return list
}

// total adds up numbers.
func total(list []*big.Int) *big.Int {
	sum := new(big.Int)
	for _, a := range list {
		sum.Add(sum, a)
	}
	return sum
}

// counter is one of the functions that count for a symbol code.
type counter func(c api.Code, w int) (api.Nat, api.Errno)

func wantCount(t *testing.T, what string, argument any, w int, got api.Nat, err api.Errno, want *big.Int) {
	t.Helper()
	if err != api.OK || toBig(got).Cmp(want) != 0 {
		t.Errorf("%s of %v for %d: %v, error %d; want %v", what, argument, w, toBig(got), err, want)
	}
}

// wantError checks an error, and that the number beside it is the zero value.
func wantError(t *testing.T, what string, argument any, w int, got api.Nat, err, want api.Errno) {
	t.Helper()
	if err != want || got.Limbs != nil {
		t.Errorf("%s of %v for %d: %v, error %d; want nothing, error %d", what, argument, w, toBig(got), err, want)
	}
}

// wantCounts checks a function for a code and all numbers of bytes.
func wantCounts(t *testing.T, what string, count counter, c api.Code, want []*big.Int) {
	t.Helper()
	for w := range c.Data + c.Checks + 1 {
		got, err := count(c, w)
		wantCount(t, what, c, w, got, err, want[w])
	}
}

// wantAlone checks that what is done to one number does not change another one.
func wantAlone(t *testing.T, what string, call func() []api.Nat) {
	t.Helper()
	first, second := call(), call()
	kept := make([][]int, len(second))
	for k, a := range second {
		kept[k] = slices.Clone(a.Limbs)
	}
	for k, a := range first {
		limbs := a.Limbs[:cap(a.Limbs)]
		for i := range limbs {
			limbs[i] = -1
		}
		for _, other := range first[k+1:] {
			if !nat.Valid(other) {
				t.Errorf("%s: two numbers share memory", what)
			}
		}
	}
	third := call()
	for k, limbs := range kept {
		if !slices.Equal(second[k].Limbs, limbs) || !slices.Equal(third[k].Limbs, limbs) {
			t.Errorf("%s: results share memory", what)
		}
	}
}
