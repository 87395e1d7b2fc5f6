package nat_test

import (
	"math"
	"math/big"
	"memfault/api"
	"memfault/nat"
	"slices"
	"testing"
)

func TestValid(t *testing.T) {
	for what, a := range invalid() {
		if nat.Valid(a) {
			t.Errorf("valid: %s", what)
		}
	}
	for _, a := range samples() {
		if !nat.Valid(a) {
			t.Errorf("not valid: %v", a.Limbs)
		}
	}
	if nat.Valid(of(append(filled(api.MaxLimbs-1, 1).Limbs, 0)...)) {
		t.Error("valid: 200 limbs, the highest one 0")
	}
}

func TestOf(t *testing.T) {
	for n, want := range map[int][]int{
		0:                   nil,
		1:                   {1},
		top:                 {top},
		16777216:            {0, 1},
		16777217:            {1, 1},
		1<<48 - 1:           {top, top},
		1 << 48:             {0, 0, 1},
		1 << 62:             {0, 0, 1 << 14},
		math.MaxInt:         {top, top, 1<<15 - 1},
		math.MaxInt - 1<<24: {top, top - 1, 1<<15 - 1},
	} {
		if a, err := nat.Of(n); err != api.OK || !slices.Equal(a.Limbs, want) {
			t.Errorf("Of(%d): %v, %d, want %v", n, a.Limbs, err, want)
		}
	}
	for _, n := range []int{-1, -1 << 24, math.MinInt} {
		a, err := nat.Of(n)
		wantError(t, "Of of a negative number", a, err, api.ErrRange)
	}
}

func TestInt(t *testing.T) {
	for _, n := range []int{0, 1, 9, top, top + 1, 1<<48 - 1, 1 << 48, 123456789012345678, 1<<62 - 1, 1 << 62} {
		a, _ := nat.Of(n)
		if got, err := nat.Int(a); got != n || err != api.OK {
			t.Errorf("Int of %d: %d, %d", n, got, err)
		}
	}
	for _, a := range []api.Nat{of(1, 0, 1<<14), of(0, 0, 1<<14+1), bit(63), bit(64), of(0, 0, 0, 1), of(0, 0, 0, 0, 1), greatest()} {
		if got, err := nat.Int(a); got != 0 || err != api.ErrLimit {
			t.Errorf("Int of %v: %d, %d", a.Limbs, got, err)
		}
	}
	for what, a := range invalid() {
		if got, err := nat.Int(a); got != 0 || err != api.ErrInvalid {
			t.Errorf("Int of %s: %d, %d", what, got, err)
		}
	}
}

func TestCmp(t *testing.T) {
	list := samples()
	for _, a := range list {
		for _, b := range list {
			if got, want := nat.Cmp(a, b), toBig(a).Cmp(toBig(b)); got != want {
				t.Errorf("Cmp(%v, %v): %d, want %d", a.Limbs, b.Limbs, got, want)
			}
		}
	}
	if nat.Cmp(of(9, 1), of(1, 2)) != -1 || nat.Cmp(of(9, 2), of(10, 2)) != -1 || nat.Cmp(of(0, 1), of(top)) != 1 {
		t.Error("the highest limb that differs decides")
	}
}

// Numbers that are not valid have no order, but Cmp returns for them, too.
func TestCmpOfInvalid(t *testing.T) {
	for _, a := range invalid() {
		for _, b := range append(samples(), a) {
			nat.Cmp(a, b)
			nat.Cmp(b, a)
		}
	}
}

// refused are the calls of functions of two numbers; each returns all its results.
var refused = map[string]func(a, b api.Nat) (api.Nat, api.Nat, api.Errno){
	"Add":    pair(nat.Add),
	"Sub":    pair(nat.Sub),
	"Mul":    pair(nat.Mul),
	"Gcd":    pair(nat.Gcd),
	"Divide": nat.Divide,
}

func pair(f func(a, b api.Nat) (api.Nat, api.Errno)) func(a, b api.Nat) (api.Nat, api.Nat, api.Errno) {
	return func(a, b api.Nat) (api.Nat, api.Nat, api.Errno) {
		c, err := f(a, b)
		return c, api.Nat{}, err
	}
}

// ErrInvalid comes before ErrNegative, ErrZero and ErrLimit, whichever argument is not valid.
func TestInvalidArguments(t *testing.T) {
	for name, f := range refused {
		for what, bad := range invalid() {
			for _, other := range []api.Nat{{}, of(1), greatest(), bad} {
				c, d, err := f(bad, other)
				wantError(t, name+" of "+what, c, err, api.ErrInvalid)
				wantError(t, name+" of "+what, d, err, api.ErrInvalid)
				c, d, err = f(other, bad)
				wantError(t, name+" by "+what, c, err, api.ErrInvalid)
				wantError(t, name+" by "+what, d, err, api.ErrInvalid)
			}
		}
	}
	for what, bad := range invalid() {
		for _, n := range []int{-1, 0, 1, 2, 4800, 4801} {
			c, err := nat.Power(bad, n)
			wantError(t, "Power of "+what, c, err, api.ErrInvalid)
		}
		if s := nat.Print(bad); s != "" {
			t.Errorf("Print of %s: %.40q", what, s)
		}
	}
}

// spoil writes over all the memory that a number has.
func spoil(a api.Nat) {
	limbs := a.Limbs[:cap(a.Limbs)]
	for i := range limbs {
		limbs[i] = -1
	}
}

// Arguments stay as they are, and results share no memory with them or with each other.
func TestMemory(t *testing.T) {
	calls := map[string]func(a, b api.Nat) (api.Nat, api.Nat, api.Errno){
		"Power 0": pair(func(a, b api.Nat) (api.Nat, api.Errno) { return nat.Power(a, 0) }),
		"Power 1": pair(func(a, b api.Nat) (api.Nat, api.Errno) { return nat.Power(a, 1) }),
		"Power 2": pair(func(a, b api.Nat) (api.Nat, api.Errno) { return nat.Power(a, 2) }),
		"Print":   pair(func(a, b api.Nat) (api.Nat, api.Errno) { return nat.Parse(nat.Print(a)) }),
		"Int": pair(func(a, b api.Nat) (api.Nat, api.Errno) {
			_, err := nat.Int(a)
			nat.Cmp(a, b)
			return api.Nat{}, err
		}),
	}
	for name, f := range refused {
		calls[name] = f
	}
	numbers := []api.Nat{{}, of(1), of(7), of(12, 5), of(3, top, 9), of(1, 0, 1<<23), filled(60, top), greatest()}
	for name, f := range calls {
		for _, a := range numbers {
			for _, b := range numbers {
				checkMemory(t, name, f, a, b)
			}
		}
	}
}

func checkMemory(t *testing.T, name string, f func(a, b api.Nat) (api.Nat, api.Nat, api.Errno), a, b api.Nat) {
	t.Helper()
	// The arguments have room behind them that an append could write to.
	x, y := of(append(slices.Clone(a.Limbs), 77, 78)...), of(append(slices.Clone(b.Limbs), 77, 78)...)
	wholeX, wholeY := slices.Clone(x.Limbs), slices.Clone(y.Limbs)
	x.Limbs, y.Limbs = x.Limbs[:len(a.Limbs)], y.Limbs[:len(b.Limbs)]
	unchanged := func() bool {
		return slices.Equal(x.Limbs[:len(a.Limbs)+2], wholeX) && slices.Equal(y.Limbs[:len(b.Limbs)+2], wholeY)
	}
	first, second, err := f(x, y)
	if !unchanged() {
		t.Fatalf("%s(%v, %v) changes its arguments", name, a.Limbs, b.Limbs)
	}
	keep := slices.Clone(second.Limbs)
	spoil(first)
	if !unchanged() || !slices.Equal(second.Limbs, keep) {
		t.Fatalf("%s(%v, %v) shares memory", name, a.Limbs, b.Limbs)
	}
	spoil(second)
	if !unchanged() {
		t.Fatalf("%s(%v, %v) shares memory", name, a.Limbs, b.Limbs)
	}
	again, rest, code := f(x, y)
	once, part, _ := f(a, b)
	if code != err || !slices.Equal(again.Limbs, once.Limbs) || !slices.Equal(rest.Limbs, part.Limbs) {
		t.Errorf("%s(%v, %v) does not depend on its arguments alone", name, a.Limbs, b.Limbs)
	}
}

// The numbers that Of and Choose make have memory of their own, too.
func TestMemoryOfMade(t *testing.T) {
	makers := map[string]func() (api.Nat, api.Errno){
		"Of":          func() (api.Nat, api.Errno) { return nat.Of(123456789) },
		"Choose":      func() (api.Nat, api.Errno) { return nat.Choose(60, 30) },
		"Choose none": func() (api.Nat, api.Errno) { return nat.Choose(60, 0) },
		"Parse":       func() (api.Nat, api.Errno) { return nat.Parse("123456789123456789") },
	}
	for name, f := range makers {
		a, _ := f()
		keep := slices.Clone(a.Limbs)
		spoil(a)
		if b, err := f(); err != api.OK || !slices.Equal(b.Limbs, keep) {
			t.Errorf("%s: %v, %d, want %v", name, b.Limbs, err, keep)
		}
	}
}

// A nil slice and an empty one are the same zero.
func TestEmptyIsNil(t *testing.T) {
	none, empty := api.Nat{}, api.Nat{Limbs: []int{}}
	if !nat.Valid(none) || !nat.Valid(empty) || nat.Cmp(none, empty) != 0 || nat.Print(none) != "0" || nat.Print(empty) != "0" {
		t.Error("zero")
	}
	for name, f := range refused {
		for _, b := range []api.Nat{none, empty, of(5)} {
			c, d, err := f(none, b)
			c2, d2, err2 := f(empty, b)
			if err != err2 || !slices.Equal(c.Limbs, c2.Limbs) || !slices.Equal(d.Limbs, d2.Limbs) {
				t.Errorf("%s(0, %v)", name, b.Limbs)
			}
		}
	}
	if got := toBig(empty); got.Cmp(new(big.Int)) != 0 {
		t.Errorf("zero is %s", got)
	}
}
