package nat_test

import (
	"math/big"
	"memfault/api"
	"memfault/nat"
	"testing"
)

// Sums, differences and products of all pairs, those with too many limbs among them.
func TestSums(t *testing.T) {
	list := samples()
	for _, a := range list {
		for _, b := range list {
			x, y := toBig(a), toBig(b)
			sum, err := nat.Add(a, b)
			wantBig(t, "Add", sum, err, new(big.Int).Add(x, y))
			product, err := nat.Mul(a, b)
			wantBig(t, "Mul", product, err, new(big.Int).Mul(x, y))
			difference, err := nat.Sub(a, b)
			if x.Cmp(y) < 0 {
				wantError(t, "Sub", difference, err, api.ErrNegative)
			} else {
				wantBig(t, "Sub", difference, err, new(big.Int).Sub(x, y))
			}
		}
	}
}

func TestSumsAtTheLimit(t *testing.T) {
	one := of(1)
	a, err := nat.Sub(greatest(), one)
	wantBig(t, "Sub", a, err, new(big.Int).Sub(toBig(greatest()), big.NewInt(1)))
	a, err = nat.Add(a, one)
	wantBig(t, "Add up to the greatest", a, err, toBig(greatest()))
	a, err = nat.Add(a, one)
	wantError(t, "Add beyond the greatest", a, err, api.ErrLimit)
	a, err = nat.Add(bit(4799), bit(4799))
	wantError(t, "Add to 2^4800", a, err, api.ErrLimit)
	a, err = nat.Mul(bit(2400), bit(2399))
	wantBig(t, "Mul to 2^4799", a, err, toBig(bit(4799)))
	a, err = nat.Mul(bit(2400), bit(2400))
	wantError(t, "Mul to 2^4800", a, err, api.ErrLimit)
	a, err = nat.Mul(greatest(), one)
	wantBig(t, "Mul by 1", a, err, toBig(greatest()))
	a, err = nat.Mul(one, greatest())
	wantBig(t, "Mul of 1", a, err, toBig(greatest()))
	a, err = nat.Mul(greatest(), of(2))
	wantError(t, "Mul by 2", a, err, api.ErrLimit)
	a, err = nat.Mul(greatest(), greatest())
	wantError(t, "Mul of the greatest", a, err, api.ErrLimit)
	a, err = nat.Mul(greatest(), api.Nat{})
	wantBig(t, "Mul by 0", a, err, new(big.Int))
	a, err = nat.Sub(greatest(), greatest())
	wantBig(t, "Sub to 0", a, err, new(big.Int))
	a, err = nat.Sub(api.Nat{}, one)
	wantError(t, "Sub below 0", a, err, api.ErrNegative)
}
