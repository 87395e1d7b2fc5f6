package chance_test

import (
	"math/big"
	"memfault/api"
	"memfault/chance"
	"memfault/ratio"
	"testing"
)

// all returns what a function counts, for each number of bytes.
func all(t *testing.T, count counter, c api.Code) []*big.Int {
	t.Helper()
	var list []*big.Int
	for w := range c.Data + c.Checks + 1 {
		a, err := count(c, w)
		if err != api.OK {
			t.Fatalf("%v for %d: error %d", c, w, err)
		}
		list = append(list, toBig(a))
	}
	return list
}

// Errors add up to all words, Words to all code words, and Wrong to all that is close to a code word, but for that of zeros.
func TestSums(t *testing.T) {
	for _, c := range codes(1, 2, 3, 8, 17, 31, 32) {
		n := c.Data + c.Checks
		errors := all(t, chance.Errors, c)
		if sum := total(errors); sum.Cmp(power(256, n)) != 0 {
			t.Errorf("Errors of %v: %v together", c, sum)
		}
		words := power(256, c.Data)
		if sum := total(all(t, chance.Words, c)); sum.Cmp(words) != 0 {
			t.Errorf("Words of %v: %v together", c, sum)
		}
		words.Sub(words, big.NewInt(1))
		near := times(words, total(errors[:c.Fix+1]))
		if sum := total(all(t, chance.Wrong, c)); sum.Cmp(near) != 0 {
			t.Errorf("Wrong of %v: %v together, want %v", c, sum, near)
		}
	}
}

// No error of at most Checks - Fix bytes passes, and some of one byte more do.
func TestFirstWrong(t *testing.T) {
	for data := 1; data <= 32; data++ {
		for _, c := range codes(data) {
			for w, count := range all(t, chance.Wrong, c) {
				if first := c.Checks - c.Fix + 1; w < first && count.Sign() != 0 || w == first && count.Sign() <= 0 {
					t.Errorf("Wrong of %v for %d: %v", c, w, count)
				}
			}
		}
	}
}

// Fewer corrections never let more errors pass; without any, just the code words pass.
func TestFewerCorrections(t *testing.T) {
	for _, c := range codes(1, 4, 16, 32) {
		if c.Fix == 0 {
			words, wrong := all(t, chance.Words, c), all(t, chance.Wrong, c)
			for w := range words {
				if w > 0 && words[w].Cmp(wrong[w]) != 0 {
					t.Errorf("%v for %d: %v words, %v wrong", c, w, words[w], wrong[w])
				}
			}
			continue
		}
		fewer := c
		fewer.Fix--
		for w := range c.Data + c.Checks + 1 {
			less, _ := chance.Chance(fewer, w)
			more, _ := chance.Chance(c, w)
			if order, err := ratio.Cmp(less, more); err != api.OK || order > 0 {
				t.Errorf("%v for %d: %s, and %s with fewer corrections", c, w, ratio.Print(more), ratio.Print(less))
			}
		}
	}
}
