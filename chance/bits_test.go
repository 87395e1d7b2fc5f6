package chance_test

import (
	"bytes"
	"math"
	"math/big"
	"memfault/api"
	"memfault/chance"
	"memfault/hamming"
	"testing"
)

// P8.3
func TestWrongBits(t *testing.T) {
	for w, want := range wantedWrongBits(t) {
		got, err := chance.WrongBits(w)
		wantCount(t, "WrongBits", nil, w, got, err, want)
	}
	for _, w := range []int{math.MinInt, -2, -1, 73, 74, 1 << 32, math.MaxInt} {
		got, err := chance.WrongBits(w)
		wantError(t, "WrongBits", nil, w, got, err, api.ErrRange)
	}
}

// P8.3: what hamming.Decode makes of all sets of a few bits, and of all but a few, one by one.
func TestWrongBitsOneByOne(t *testing.T) {
	for _, start := range []byte{0, 255} {
		var counts [4]int64
		word := bytes.Repeat([]byte{start}, 9)
		var turn func(first, turned int)
		turn = func(first, turned int) {
			decoded, _, err := hamming.Decode(word)
			if err != api.OK {
				t.Fatalf("Decode of %v: error %d", word, err)
			}
			if (decoded.Outcome == api.Clean || decoded.Outcome == api.Fixed) && weight(decoded.Word) > 0 {
				counts[turned]++
			}
			if turned == 3 {
				return
			}
			for bit := first; bit < 72; bit++ {
				word[bit/8] ^= 1 << (bit % 8)
				turn(bit+1, turned+1)
				word[bit/8] ^= 1 << (bit % 8)
			}
		}
		turn(0, 0)
		for turned, count := range counts {
			w := turned
			if start == 255 {
				w = 72 - turned
			}
			got, err := chance.WrongBits(w)
			wantCount(t, "WrongBits", nil, w, got, err, big.NewInt(count))
		}
	}
}

// All sets that pass: for each code word but that of zeros, itself and those with one other bit.
func TestWrongBitsAddUp(t *testing.T) {
	sum := new(big.Int)
	for w := range 73 {
		got, err := chance.WrongBits(w)
		if err != api.OK || w < 3 && got.Limbs != nil {
			t.Errorf("WrongBits of %d: %v, error %d", w, toBig(got), err)
		}
		sum.Add(sum, toBig(got))
	}
	want := new(big.Int).Sub(power(2, 64), big.NewInt(1))
	if want.Mul(want, big.NewInt(73)); sum.Cmp(want) != 0 {
		t.Errorf("all together: %v, want %v", sum, want)
	}
}
