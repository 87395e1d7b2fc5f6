package nat_test

import (
	"math"
	"math/big"
	"memfault/api"
	"memfault/nat"
	"testing"
)

func TestPower(t *testing.T) {
	for _, a := range append(samples(), of(3), of(5), of(6), of(7)) {
		for _, n := range []int{0, 1, 2, 3, 4, 5, 7, 8, 20, 31, 32, 63, 64, 100, 199, 200, 255, 1000, 2400, 4799, 4800} {
			x := toBig(a)
			if x.BitLen() > 1 && (x.BitLen()-1)*n > api.LimbBits*api.MaxLimbs {
				got, err := nat.Power(a, n)
				wantError(t, "Power", got, err, api.ErrLimit)
				continue
			}
			got, err := nat.Power(a, n)
			wantBig(t, "Power", got, err, new(big.Int).Exp(x, big.NewInt(int64(n)), nil))
		}
	}
}

// The powers of a base are permitted exactly up to the last one with 200 limbs.
func TestPowerAtTheLimit(t *testing.T) {
	for _, base := range []int{2, 3, 10, 255, 16777216, 1 << 30} {
		a, _ := nat.Of(base)
		n := int(float64(api.LimbBits*api.MaxLimbs)/math.Log2(float64(base))) - 2
		for ; n < 4801; n++ {
			got, err := nat.Power(a, n)
			wantBig(t, "Power", got, err, new(big.Int).Exp(toBig(a), big.NewInt(int64(n)), nil))
			if err != api.OK {
				break
			}
		}
	}
}

func TestPowerErrors(t *testing.T) {
	for _, a := range []api.Nat{{}, of(1), of(2), greatest()} {
		for _, n := range []int{-1, -4800, math.MinInt, 4801, 1 << 30, math.MaxInt} {
			got, err := nat.Power(a, n)
			wantError(t, "Power out of range", got, err, api.ErrRange)
		}
	}
	for _, n := range []int{0, 1, 4800} {
		one, err := nat.Power(of(1), n)
		wantBig(t, "Power of 1", one, err, big.NewInt(1))
	}
	zero, err := nat.Power(api.Nat{}, 4800)
	wantBig(t, "Power of 0", zero, err, new(big.Int))
	one, err := nat.Power(api.Nat{}, 0)
	wantBig(t, "0 to the power of 0", one, err, big.NewInt(1))
	got, err := nat.Power(of(2), 4800)
	wantError(t, "2^4800", got, err, api.ErrLimit)
}

func TestChoose(t *testing.T) {
	for _, n := range []int{0, 1, 2, 5, 40, 72, 100, 1000, 4095, 4096} {
		for _, k := range []int{0, 1, 2, 3, 7, 20, 36, 50, 500, 2047, 2048, 2049, n - 2, n - 1, n, n + 1, -1, math.MinInt, math.MaxInt} {
			want := new(big.Int)
			if k >= 0 && k <= n {
				want.Binomial(int64(n), int64(k))
			}
			got, err := nat.Choose(n, k)
			wantBig(t, "Choose", got, err, want)
		}
	}
	for _, n := range []int{-1, math.MinInt, 4097, math.MaxInt} {
		for _, k := range []int{-1, 0, 1, n, 4097} {
			got, err := nat.Choose(n, k)
			wantError(t, "Choose out of range", got, err, api.ErrRange)
		}
	}
	if ten, _ := nat.Choose(5, 2); nat.Print(ten) != "10" {
		t.Errorf("Choose(5, 2): %s", nat.Print(ten))
	}
}

// Each number of sets is the sum of two of one thing less.
func TestPascal(t *testing.T) {
	for _, n := range []int{1, 2, 3, 10, 33, 90, 2000, 4096} {
		for k := -1; k <= min(n+1, 60); k++ {
			whole, err := nat.Choose(n, k)
			with, _ := nat.Choose(n-1, k-1)
			without, _ := nat.Choose(n-1, k)
			sum, code := nat.Add(with, without)
			if err != api.OK || code != api.OK || nat.Cmp(whole, sum) != 0 {
				t.Errorf("Choose(%d, %d): %s, want %s", n, k, nat.Print(whole), nat.Print(sum))
			}
		}
	}
}
