package chance_test

import (
	"math"
	"math/big"
	"memfault/api"
	"memfault/chance"
	"memfault/nat"
	"memfault/ratio"
	"memfault/symbol"
	"testing"
)

// P8.1, for all valid codes.
func TestErrorsAndWords(t *testing.T) {
	for data := 1; data <= 32; data++ {
		for _, c := range codes(data) {
			wantCounts(t, "Errors", chance.Errors, c, wantedErrors(c.Data+c.Checks))
			wantCounts(t, "Words", chance.Words, c, wantedWords(c))
		}
	}
}

// P8.1: the code words of some codes, made one by one.
func TestWordsOneByOne(t *testing.T) {
	for _, c := range codes(1, 2) {
		if c.Data == 2 && c.Fix > 0 {
			continue // the code words are the same
		}
		counts := zeros(c.Data + c.Checks + 1)
		for k := range 1 << (8 * c.Data) {
			word, err := symbol.Encode(c, []byte{byte(k), byte(k >> 8)}[:c.Data])
			if err != api.OK {
				t.Fatalf("Encode with %v: error %d", c, err)
			}
			w := weight(word)
			counts[w].Add(counts[w], big.NewInt(1))
		}
		wantCounts(t, "Words", chance.Words, c, counts)
	}
}

// P8.2, for all valid codes.
func TestWrong(t *testing.T) {
	for data := 1; data <= 32; data++ {
		for _, c := range codes(data) {
			wantCounts(t, "Wrong", chance.Wrong, c, wantedWrong(c))
		}
	}
}

// P8.2: what symbol.Decode makes of all errors of a few bytes, one by one.
func TestWrongOneByOne(t *testing.T) {
	for _, e := range []struct {
		code api.Code
		most int
	}{
		{code(1, 1, 0), 2},
		{code(2, 1, 0), 3},
		{code(1, 2, 0), 3},
		{code(1, 2, 1), 3},
		{code(2, 2, 1), 3},
		{code(3, 2, 1), 2},
		{code(9, 2, 1), 2},
		{code(2, 3, 1), 2},
		{code(32, 1, 0), 2},
		{code(32, 8, 4), 1},
	} {
		for w := range e.most + 1 {
			count := 0
			errorsOf(e.code.Data+e.code.Checks, w, func(word []byte) {
				if isWrong(t, e.code, word) {
					count++
				}
			})
			got, err := chance.Wrong(e.code, w)
			wantCount(t, "Wrong", e.code, w, got, err, big.NewInt(int64(255*count)))
		}
	}
}

// P8.2
func TestChance(t *testing.T) {
	for _, c := range codes(1, 2, 7, 19, 32) {
		n := c.Data + c.Checks
		all, wrong := wantedErrors(n), wantedWrong(c)
		for w := range n + 1 {
			want := new(big.Rat).SetFrac(wrong[w], all[w])
			got, err := chance.Chance(c, w)
			if err != api.OK || !ratio.Valid(got) || toBig(got.Num).Cmp(want.Num()) != 0 || toBig(got.Den).Cmp(want.Denom()) != 0 {
				t.Errorf("Chance of %v for %d: %s, error %d; want %v", c, w, ratio.Print(got), err, want)
			}
		}
	}
}

func TestExamples(t *testing.T) {
	for _, e := range []struct {
		code                 api.Code
		w                    int
		errors, words, wrong string
		chance               string
	}{
		{code(1, 1, 0), 0, "1", "1", "0", "0/1"},
		{code(1, 1, 0), 1, "510", "0", "0", "0/1"},
		{code(1, 1, 0), 2, "65025", "255", "255", "1/255"},
		{code(3, 1, 0), 2, "390150", "1530", "1530", "1/255"},
		{code(2, 2, 0), 3, "66325500", "1020", "1020", "1/65025"},
		{code(2, 2, 1), 2, "390150", "0", "3060", "2/255"},
		{code(1, 2, 1), 3, "16581375", "255", "194565", "763/65025"},
	} {
		all, _ := chance.Errors(e.code, e.w)
		words, _ := chance.Words(e.code, e.w)
		wrong, _ := chance.Wrong(e.code, e.w)
		part, _ := chance.Chance(e.code, e.w)
		if nat.Print(all) != e.errors || nat.Print(words) != e.words || nat.Print(wrong) != e.wrong || ratio.Print(part) != e.chance {
			t.Errorf("%v for %d: %s, %s, %s, %s", e.code, e.w, nat.Print(all), nat.Print(words), nat.Print(wrong), ratio.Print(part))
		}
	}
}

// ErrInvalid comes before ErrRange.
func TestRefused(t *testing.T) {
	chances := func(c api.Code, w int) (api.Nat, api.Errno) {
		got, err := chance.Chance(c, w)
		if got.Num.Limbs != nil || got.Den.Limbs != nil {
			return api.Nat{Limbs: []int{-1}}, err
		}
		return api.Nat{}, err
	}
	outside := []int{math.MinInt, math.MinInt32, -2, -1, 41, 4800, math.MaxInt32, math.MaxInt}
	for what, count := range map[string]counter{"Errors": chance.Errors, "Words": chance.Words, "Wrong": chance.Wrong, "Chance": chances} {
		for _, c := range wrongCodes() {
			for _, w := range append([]int{0, 1, 3}, outside...) {
				got, err := count(c, w)
				wantError(t, what, c, w, got, err, api.ErrInvalid)
			}
		}
		for data := 1; data <= 32; data++ {
			for _, c := range codes(data) {
				for _, w := range append([]int{c.Data + c.Checks + 1}, outside...) {
					got, err := count(c, w)
					wantError(t, what, c, w, got, err, api.ErrRange)
				}
				if _, err := count(c, c.Data+c.Checks); err != api.OK {
					t.Errorf("%s of %v for all bytes: error %d", what, c, err)
				}
			}
		}
	}
}

// R2: results have memory of their own.
func TestMemory(t *testing.T) {
	for _, c := range []api.Code{code(1, 1, 0), code(2, 2, 1), code(32, 8, 4)} {
		for w := range c.Data + c.Checks + 1 {
			wantAlone(t, "symbols", func() []api.Nat {
				all, _ := chance.Errors(c, w)
				words, _ := chance.Words(c, w)
				wrong, _ := chance.Wrong(c, w)
				part, _ := chance.Chance(c, w)
				return []api.Nat{all, words, wrong, part.Num, part.Den}
			})
		}
	}
	for w := range 73 {
		wantAlone(t, "bits", func() []api.Nat {
			wrong, _ := chance.WrongBits(w)
			return []api.Nat{wrong}
		})
	}
}
