package ratio_test

import (
	"math/big"
	"memfault/api"
	"memfault/ratio"
	"testing"
)

type calculation func(a, b api.Ratio) (api.Ratio, api.Errno)

var calculations = map[string]calculation{"Add": ratio.Add, "Sub": ratio.Sub, "Mul": ratio.Mul, "Divide": ratio.Divide}

// expected says what a calculation with valid fractions should give: it follows P2.2 word by word.
func expected(name string, x, y *big.Rat) (*big.Rat, api.Errno) {
	cross, back, dens := times(x.Num(), y.Denom()), times(y.Num(), x.Denom()), times(x.Denom(), y.Denom())
	named := []*big.Int{cross, back, dens}
	value := new(big.Rat)
	switch name {
	case "Add":
		named = append(named, new(big.Int).Add(cross, back))
		value.Add(x, y)
	case "Sub":
		value.Sub(x, y)
	case "Mul":
		named = []*big.Int{times(x.Num(), y.Num()), dens}
		value.Mul(x, y)
	case "Divide":
		if y.Sign() == 0 {
			return nil, api.ErrZero
		}
		named = []*big.Int{cross, back}
		value.Quo(x, y)
	}
	for _, number := range named {
		if !fits(number) {
			return nil, api.ErrLimit
		}
	}
	if value.Sign() < 0 {
		return nil, api.ErrNegative
	}
	return value, api.OK
}

func TestCalculations(t *testing.T) {
	seen := map[api.Errno]int{}
	for a, b := range pairs(samples()) {
		x, y := toRat(a), toRat(b)
		for name, f := range calculations {
			got, err := f(a, b)
			want, wantErr := expected(name, x, y)
			seen[wantErr]++
			if wantErr != api.OK {
				wantError(t, name+" of "+text(a)+" and "+text(b), got, err, wantErr)
			} else {
				wantValue(t, name+" of "+text(a)+" and "+text(b), got, err, want)
			}
		}
	}
	if len(seen) != 4 {
		t.Errorf("the samples lead to these errors alone: %v", seen)
	}
}

func TestSmallCalculations(t *testing.T) {
	for _, x := range []struct {
		name string
		a, b api.Ratio
		want string
		err  api.Errno
	}{
		{"Add", small(1, 2), small(1, 3), "5/6", api.OK},
		{"Add", small(1, 6), small(1, 3), "1/2", api.OK},
		{"Add", small(1, 2), small(1, 2), "1/1", api.OK},
		{"Add", small(0, 1), small(0, 1), "0/1", api.OK},
		{"Add", small(0, 1), small(5, 7), "5/7", api.OK},
		{"Sub", small(1, 2), small(1, 3), "1/6", api.OK},
		{"Sub", small(5, 6), small(1, 3), "1/2", api.OK},
		{"Sub", small(1, 3), small(1, 3), "0/1", api.OK},
		{"Sub", small(5, 7), small(0, 1), "5/7", api.OK},
		{"Sub", small(0, 1), small(0, 1), "0/1", api.OK},
		{"Sub", small(1, 3), small(1, 2), "", api.ErrNegative},
		{"Sub", small(0, 1), small(1, 1<<62), "", api.ErrNegative},
		{"Mul", small(2, 3), small(3, 4), "1/2", api.OK},
		{"Mul", small(2, 3), small(3, 2), "1/1", api.OK},
		{"Mul", small(0, 1), small(3, 4), "0/1", api.OK},
		{"Mul", small(3, 4), small(0, 1), "0/1", api.OK},
		{"Divide", small(1, 2), small(3, 4), "2/3", api.OK},
		{"Divide", small(3, 4), small(3, 4), "1/1", api.OK},
		{"Divide", small(0, 1), small(3, 4), "0/1", api.OK},
		{"Divide", small(3, 4), small(0, 1), "", api.ErrZero},
		{"Divide", small(0, 1), small(0, 1), "", api.ErrZero},
	} {
		got, err := calculations[x.name](x.a, x.b)
		if err != x.err || ratio.Print(got) != x.want {
			t.Errorf("%s of %s and %s: %s and error %d, want %s and %d", x.name, ratio.Print(x.a), ratio.Print(x.b), ratio.Print(got), err, x.want, x.err)
		}
	}
}

// ErrInvalid comes before ErrZero, ErrLimit and ErrNegative, whichever fraction is not valid.
func TestInvalidArguments(t *testing.T) {
	others := []api.Ratio{small(0, 1), small(3, 2), fraction(one, bit(4799)), fraction(greatestNumber(), two)}
	for name, f := range calculations {
		for what, bad := range invalid() {
			for _, other := range append(others, bad) {
				got, err := f(bad, other)
				wantError(t, name+" of "+what, got, err, api.ErrInvalid)
				got, err = f(other, bad)
				wantError(t, name+" with "+what, got, err, api.ErrInvalid)
			}
		}
	}
}

// Arguments stay as they are, and results share no memory with them or with each other.
func TestMemory(t *testing.T) {
	calls := map[string]calculation{
		"Make": func(a, b api.Ratio) (api.Ratio, api.Errno) { return ratio.Make(a.Num, b.Den) },
		"Floor": func(a, b api.Ratio) (api.Ratio, api.Errno) {
			floor, err := ratio.Floor(a)
			return api.Ratio{Num: floor}, err
		},
		"Cmp": func(a, b api.Ratio) (api.Ratio, api.Errno) {
			_, err := ratio.Cmp(a, b)
			ratio.Valid(a)
			ratio.Print(b)
			return api.Ratio{}, err
		},
	}
	for name, f := range calculations {
		calls[name] = f
	}
	list := []api.Ratio{small(0, 1), small(1, 1), small(3, 2), small(1, 255), small(6, 4), small(1<<24+1, 1<<24), fraction(bit(2400), three), fraction(three, bit(2399)), fraction(bit(4799), one), fraction(one, bit(4799))}
	for name, f := range calls {
		for _, a := range list {
			for _, b := range list {
				checkMemory(t, name, f, a, b)
			}
		}
	}
}

// roomy is a copy of a number with room behind its limbs, and all of its memory.
func roomy(a api.Nat) (api.Nat, []int) {
	whole := append(append([]int{}, a.Limbs...), 77, 78)
	return api.Nat{Limbs: whole[:len(a.Limbs)]}, whole
}

// spoil writes over all the memory that a number has.
func spoil(a api.Nat) {
	limbs := a.Limbs[:cap(a.Limbs)]
	for i := range limbs {
		limbs[i] = -1
	}
}

func checkMemory(t *testing.T, name string, f calculation, a, b api.Ratio) {
	t.Helper()
	var x, y api.Ratio
	var memory [4][]int
	x.Num, memory[0] = roomy(a.Num)
	x.Den, memory[1] = roomy(a.Den)
	y.Num, memory[2] = roomy(b.Num)
	y.Den, memory[3] = roomy(b.Den)
	unchanged := func() bool {
		for i, number := range []api.Nat{a.Num, a.Den, b.Num, b.Den} {
			_, want := roomy(number)
			if !same(api.Ratio{Num: of(want...)}, api.Ratio{Num: of(memory[i]...)}) {
				return false
			}
		}
		return true
	}
	first, err := f(x, y)
	if !unchanged() {
		t.Fatalf("%s(%s, %s) changes its arguments", name, text(a), text(b))
	}
	kept, _ := roomy(first.Den)
	spoil(first.Num)
	if !same(api.Ratio{Den: kept}, api.Ratio{Den: first.Den}) {
		t.Fatalf("%s(%s, %s): Num and Den share memory", name, text(a), text(b))
	}
	spoil(first.Den)
	if !unchanged() {
		t.Fatalf("%s(%s, %s) shares memory with its arguments", name, text(a), text(b))
	}
	again, code := f(x, y)
	once, _ := f(a, b)
	if code != err || !same(again, once) {
		t.Errorf("%s(%s, %s) does not depend on its arguments alone", name, text(a), text(b))
	}
}
