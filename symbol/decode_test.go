package symbol_test

import (
	"bytes"
	"math"
	"math/rand"
	"memfault/api"
	"slices"
	"testing"
)

// P7.3
func TestDecodeExamples(t *testing.T) {
	right := []byte{1, 3, 2}
	fixed := func(chips ...int) result {
		return result{decoded: api.Decoded{Outcome: api.Fixed, Word: right, Chips: chips}}
	}
	for _, e := range []struct {
		fix    int
		word   []byte
		erased []int
		want   result
	}{
		{1, right, nil, result{decoded: api.Decoded{Outcome: api.Clean, Word: right}}},
		{0, right, nil, result{decoded: api.Decoded{Outcome: api.Clean, Word: right}}},
		{1, right, []int{0}, result{decoded: api.Decoded{Outcome: api.Clean, Word: right}}},
		{1, right, []int{1, 2}, result{decoded: api.Decoded{Outcome: api.Clean, Word: right}}},
		{1, []byte{0, 3, 2}, nil, fixed(0)},
		{1, []byte{1, 0, 2}, nil, fixed(1)},
		{1, []byte{1, 3, 255}, nil, fixed(2)},
		{0, []byte{1, 3, 255}, nil, lost()},
		{0, []byte{1, 3, 255}, []int{2}, fixed(2)},
		{1, []byte{1, 3, 255}, []int{2}, fixed(2)},
		{1, []byte{1, 3, 255}, []int{1}, lost()},
		{1, []byte{1, 3, 255}, []int{0, 2}, fixed(2)},
		{1, []byte{9, 3, 255}, []int{0, 2}, fixed(0, 2)},
		{1, []byte{0, 0, 2}, []int{0, 1}, fixed(0, 1)},
		// Two wrong places that are close to another code word are taken for its one wrong place.
		{1, []byte{1, 0, 0}, nil, result{decoded: api.Decoded{Outcome: api.Fixed, Word: []byte{0, 0, 0}, Chips: []int{0}}}},
		{1, []byte{1, 4, 1}, nil, lost()},
	} {
		wantResult(t, code(1, 2, e.fix), e.word, e.erased, decode(code(1, 2, e.fix), e.word, e.erased), e.want)
	}
}

// What Decode does with the few code words of short data is found by looking through them all.
func TestDecodeOneByte(t *testing.T) {
	r := rand.New(rand.NewSource(5))
	for _, c := range codes(1) {
		wantAsFound(t, r, c, 300)
	}
}

func TestDecodeTwoBytes(t *testing.T) {
	r := rand.New(rand.NewSource(6))
	for _, c := range codes(2) {
		wantAsFound(t, r, c, 16)
	}
}

// wantAsFound decodes words with some wrong places and some erased ones, which may be the wrong ones or not.
func wantAsFound(t *testing.T, r *rand.Rand, c api.Code, count int) {
	t.Helper()
	words, n := codeWords(c), c.Data+c.Checks
	for range count {
		wrong, _ := somePlaces(r, n, r.Intn(n+1))
		word := changed(r, words[r.Intn(len(words))], wrong)
		erased, _ := somePlaces(r, n, r.Intn(c.Checks+1))
		wantResult(t, c, word, erased, decode(c, word, erased), wanted(t, c, words, word, erased))
		wantResult(t, c, word, nil, decode(c, word, nil), wanted(t, c, words, word, nil))
	}
}

// All words of three bytes that begin with 0 have all syndromes, once each.
func TestDecodeAllSyndromes(t *testing.T) {
	for _, c := range []api.Code{code(1, 2, 0), code(1, 2, 1)} {
		words := codeWords(c)
		for a := 0; a < 256; a += 5 {
			for b := range 256 {
				word := []byte{0, byte(a), byte(b)}
				for _, erased := range [][]int{nil, {b % 3}} {
					wantResult(t, c, word, erased, decode(c, word, erased), wanted(t, c, words, word, erased))
				}
			}
		}
	}
}

// One wrong byte at each place, with each change.
func TestDecodeEachByte(t *testing.T) {
	r := rand.New(rand.NewSource(7))
	c := code(32, 2, 1)
	word := someCodeWord(t, r, c)
	for place := range word {
		for change := 1; change < 256; change++ {
			bad := bytes.Clone(word)
			bad[place] ^= byte(change)
			wantResult(t, c, bad, nil, decode(c, bad, nil), became(bad, word))
		}
	}
}

// All pairs of wrong places, and all pairs of erased ones, in the longest words.
func TestDecodePairs(t *testing.T) {
	r := rand.New(rand.NewSource(8))
	c := code(32, 8, 4)
	word := someCodeWord(t, r, c)
	for i := range word {
		for k := range i {
			pair, others := []int{k, i}, []int(nil)
			for place := range word {
				if place != i && place != k {
					others = append(others, place)
				}
			}
			r.Shuffle(len(others), func(a, b int) { others[a], others[b] = others[b], others[a] })
			bad := changed(r, word, append(pair[:2:2], others[:2]...))
			wantResult(t, c, bad, nil, decode(c, bad, nil), became(bad, word))
			bad = changed(r, word, append(pair[:2:2], others[:3]...))
			wantResult(t, c, bad, pair, decode(c, bad, pair), became(bad, word))
		}
	}
}

// What is wrong with the list is found in the order in which the document names it.
func TestErasedErrors(t *testing.T) {
	long := make([]int, 1000)
	ascending := func(n int) []int {
		list := make([]int, n)
		for i := range list {
			list[i] = i
		}
		return list
	}
	for _, c := range []api.Code{code(3, 2, 1), code(3, 2, 0), code(4, 1, 0)} {
		for _, e := range []struct {
			erased []int
			err    api.Errno
		}{
			{[]int{-1}, api.ErrRange},
			{[]int{5}, api.ErrRange},
			{[]int{math.MinInt}, api.ErrRange},
			{[]int{math.MaxInt}, api.ErrRange},
			{[]int{256}, api.ErrRange},
			{[]int{1 << 32}, api.ErrRange},
			{[]int{0, 5}, api.ErrRange},
			{[]int{4, -1}, api.ErrRange},
			{[]int{2, 1, 0, 5}, api.ErrRange},
			{[]int{1, 1, -1}, api.ErrRange},
			{append(slices.Clone(long), -7), api.ErrRange},
			{ascending(6), api.ErrRange},
			{[]int{1, 0}, api.ErrOrder},
			{[]int{1, 1}, api.ErrOrder},
			{[]int{0, 0}, api.ErrOrder},
			{[]int{4, 4}, api.ErrOrder},
			{[]int{0, 1, 2, 2}, api.ErrOrder},
			{[]int{0, 1, 3, 2, 4}, api.ErrOrder},
			{[]int{0, 1, 2, 3, 4, 4}, api.ErrOrder},
			{long, api.ErrOrder},
			{ascending(3), api.ErrLimit},
			{[]int{0, 2, 4}, api.ErrLimit},
			{ascending(4), api.ErrLimit},
			{ascending(5), api.ErrLimit},
		} {
			for _, word := range [][]byte{make([]byte, 5), {1, 2, 3, 4, 5}} {
				wantResult(t, c, word, e.erased, decode(c, word, e.erased), result{err: e.err})
			}
		}
	}
	for _, c := range codes(1, 32) {
		word := make([]byte, c.Data+c.Checks)
		wantResult(t, c, word, ascending(c.Checks), decode(c, word, ascending(c.Checks)), became(word, word))
		wantResult(t, c, word, ascending(c.Checks+1), decode(c, word, ascending(c.Checks+1)), result{err: api.ErrLimit})
	}
}
