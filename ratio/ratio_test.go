package ratio_test

import (
	"math"
	"math/big"
	"memfault/api"
	"memfault/nat"
	"memfault/ratio"
	"testing"
)

func TestValid(t *testing.T) {
	for what, a := range invalid() {
		if ratio.Valid(a) {
			t.Errorf("valid: %s", what)
		}
	}
	for _, a := range samples() {
		if !ratio.Valid(a) {
			t.Errorf("not valid: %s", text(a))
		}
	}
}

// A nil slice and an empty one are equivalent: zero has either.
func TestEmptySlices(t *testing.T) {
	zero := api.Ratio{Num: api.Nat{Limbs: []int{}}, Den: of(1)}
	if !ratio.Valid(zero) || ratio.Print(zero) != "0/1" {
		t.Errorf("zero with an empty slice: %v, %q", ratio.Valid(zero), ratio.Print(zero))
	}
	empty := api.Ratio{Num: of(1), Den: api.Nat{Limbs: []int{}}}
	if ratio.Valid(empty) || ratio.Print(empty) != "" {
		t.Errorf("1 by an empty slice: %v, %q", ratio.Valid(empty), ratio.Print(empty))
	}
	made, err := ratio.Make(zero.Num, of(7))
	wantValue(t, "0/7", made, err, new(big.Rat))
	made, err = ratio.Make(of(7), empty.Den)
	wantError(t, "7/0", made, err, api.ErrZero)
	half := small(1, 2)
	sum, err := ratio.Add(zero, half)
	wantValue(t, "0 + 1/2", sum, err, big.NewRat(1, 2))
	quotient, err := ratio.Divide(half, zero)
	wantError(t, "1/2 by 0", quotient, err, api.ErrZero)
}

// parts are numbers of which fractions are made, 0 among them.
func parts() []*big.Int {
	list := []*big.Int{new(big.Int), plus(bit(greatestBits), -1), power(6, 900), power(10, 700), power(15, 600)}
	for _, n := range []int64{1, 2, 3, 4, 6, 12, 35, 49, 97, 1<<24 - 1, 1 << 24, 1<<24 + 1, 1 << 48, 3 << 48} {
		list = append(list, big.NewInt(n))
	}
	for _, n := range []int{61, 62, 2400, 4775, 4776, 4799} {
		list = append(list, bit(n))
	}
	return list
}

func TestMake(t *testing.T) {
	for _, num := range parts() {
		for _, den := range parts() {
			got, err := ratio.Make(toNat(num), toNat(den))
			if den.Sign() == 0 {
				wantError(t, "Make by 0", got, err, api.ErrZero)
				continue
			}
			wantValue(t, "Make", got, err, new(big.Rat).SetFrac(num, den))
			if !ratio.Valid(got) {
				t.Errorf("Make of %.30s and %.30s: not valid", num, den)
			}
		}
	}
}

// ErrInvalid comes before ErrZero, whichever number is not valid.
func TestMakeErrors(t *testing.T) {
	for what, bad := range badNumbers() {
		for _, other := range []api.Nat{{}, of(1), of(6), bad} {
			got, err := ratio.Make(bad, other)
			wantError(t, "Make with Num "+what, got, err, api.ErrInvalid)
			got, err = ratio.Make(other, bad)
			wantError(t, "Make with Den "+what, got, err, api.ErrInvalid)
		}
	}
}

func TestOf(t *testing.T) {
	for _, num := range []int{0, 1, 2, 6, 7, 12, 255, 1 << 24, 1<<24 + 1, 6 << 40, 1 << 62, math.MaxInt - 1, math.MaxInt} {
		for _, den := range []int{1, 2, 4, 6, 7, 9, 255, 1 << 24, 3 << 30, 1 << 62, math.MaxInt - 1, math.MaxInt} {
			got, err := ratio.Of(num, den)
			wantValue(t, "Of", got, err, big.NewRat(int64(num), int64(den)))
		}
	}
}

// A negative number is refused also where the other one is 0.
func TestOfErrors(t *testing.T) {
	for _, n := range []int{0, 1, 5, math.MaxInt} {
		got, err := ratio.Of(n, 0)
		wantError(t, "Of by 0", got, err, api.ErrZero)
		for _, negative := range []int{-1, -6, math.MinInt} {
			got, err = ratio.Of(negative, n)
			wantError(t, "Of with a negative Num", got, err, api.ErrRange)
			got, err = ratio.Of(n, negative)
			wantError(t, "Of with a negative Den", got, err, api.ErrRange)
			got, err = ratio.Of(negative, negative)
			wantError(t, "Of with negative ints", got, err, api.ErrRange)
		}
	}
}

func TestCmp(t *testing.T) {
	for a, b := range pairs(samples()) {
		x, y := toRat(a), toRat(b)
		want, wantErr := x.Cmp(y), api.OK
		if !fits(times(x.Num(), y.Denom())) || !fits(times(y.Num(), x.Denom())) {
			want, wantErr = 0, api.ErrLimit
		}
		if got, err := ratio.Cmp(a, b); got != want || err != wantErr {
			t.Errorf("Cmp(%s, %s): %d and error %d, want %d and %d", text(a), text(b), got, err, want, wantErr)
		}
	}
}

func TestCmpAtTheLimit(t *testing.T) {
	top, greatest := fraction(bit(4799), one), fraction(plus(bit(greatestBits), -1), one)
	for _, x := range []struct {
		what string
		a, b api.Ratio
		want int
		err  api.Errno
	}{
		{"whole numbers", top, greatest, -1, api.OK},
		{"Num of a times Den of b too long", top, small(1, 2), 0, api.ErrLimit},
		{"Num of b times Den of a too long", small(1, 2), top, 0, api.ErrLimit},
		{"both too long", fraction(greatestNumber(), two), fraction(two, greatestNumber()), 0, api.ErrLimit},
		{"Num of a times Den of b the greatest", fraction(low, one), fraction(one, high), 1, api.OK},
		{"Num of b times Den of a the greatest", fraction(one, high), fraction(low, one), -1, api.OK},
		{"only the product of the Dens too long", fraction(one, bit(4799)), fraction(one, bit(4798)), -1, api.OK},
		{"equal ones, the product of the Dens too long", fraction(one, greatestNumber()), fraction(one, greatestNumber()), 0, api.OK},
		{"only the sum too long", top, top, 0, api.OK},
	} {
		if got, err := ratio.Cmp(x.a, x.b); got != x.want || err != x.err {
			t.Errorf("%s: %d and error %d, want %d and %d", x.what, got, err, x.want, x.err)
		}
	}
}

// ErrInvalid comes before ErrLimit, whichever fraction is not valid.
func TestCmpOfInvalid(t *testing.T) {
	for what, bad := range invalid() {
		for _, other := range []api.Ratio{small(0, 1), small(3, 2), fraction(greatestNumber(), two), bad} {
			if got, err := ratio.Cmp(bad, other); got != 0 || err != api.ErrInvalid {
				t.Errorf("Cmp of %s: %d, %d", what, got, err)
			}
			if got, err := ratio.Cmp(other, bad); got != 0 || err != api.ErrInvalid {
				t.Errorf("Cmp with %s: %d, %d", what, got, err)
			}
		}
	}
}

func TestFloor(t *testing.T) {
	for _, a := range samples() {
		got, err := ratio.Floor(a)
		want := new(big.Int).Quo(toBig(a.Num), toBig(a.Den))
		if err != api.OK || !nat.Valid(got) || toBig(got).Cmp(want) != 0 {
			t.Errorf("Floor of %s: %.30s and error %d, want %.30s", text(a), toBig(got), err, want)
		}
	}
	for _, x := range []struct{ num, den, want int64 }{
		{0, 1, 0}, {1, 2, 0}, {254, 255, 0}, {1, 1, 1}, {256, 255, 1}, {3, 2, 1}, {2, 1, 2}, {7, 2, 3}, {8, 3, 2}, {1 << 24, 1, 1 << 24},
	} {
		if got, err := ratio.Floor(small(x.num, x.den)); err != api.OK || toBig(got).Int64() != x.want {
			t.Errorf("Floor of %d/%d: %s and error %d", x.num, x.den, toBig(got), err)
		}
	}
	for what, bad := range invalid() {
		if got, err := ratio.Floor(bad); err != api.ErrInvalid || len(got.Limbs) > 0 {
			t.Errorf("Floor of %s: %v, %d", what, got.Limbs, err)
		}
	}
}

func TestPrint(t *testing.T) {
	for _, a := range samples() {
		if got, want := ratio.Print(a), toBig(a.Num).String()+"/"+toBig(a.Den).String(); got != want {
			t.Errorf("Print of %s: %.60s, want %.60s", text(a), got, want)
		}
	}
	for want, a := range map[string]api.Ratio{"0/1": small(0, 1), "5/1": small(5, 1), "1/255": small(1, 255), "16777216/3": small(1<<24, 3)} {
		if got := ratio.Print(a); got != want {
			t.Errorf("Print: %s, want %s", got, want)
		}
	}
	if a, err := ratio.Of(6, 4); err != api.OK || ratio.Print(a) != "3/2" {
		t.Errorf("Of(6, 4) prints as %s", ratio.Print(a))
	}
	for what, bad := range invalid() {
		if got := ratio.Print(bad); got != "" {
			t.Errorf("Print of %s: %.60s", what, got)
		}
	}
}
