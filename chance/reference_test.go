package chance_test

import (
	"math/big"
	"memfault/api"
	"memfault/hamming"
	"memfault/symbol"
	"testing"
)

// wantedErrors counts the words of n bytes by those that are not 0, one byte after the other.
func wantedErrors(n int) []*big.Int {
	counts := zeros(n + 1)
	counts[0].SetInt64(1)
	for range n {
		for w := n; w > 0; w-- {
			counts[w].Add(counts[w], times(counts[w-1], big.NewInt(255)))
		}
	}
	return counts
}

// wantedWords counts the code words of a code by their bytes that are not 0. In any set of places a code word can be 0 elsewhere in 256^(places - Checks) ways, or in one: what is counted twice is taken away, from the smallest sets on.
func wantedWords(c api.Code) []*big.Int {
	n := c.Data + c.Checks
	counts := zeros(n + 1)
	for size := range n + 1 {
		free := size - c.Checks
		if free < 0 {
			free = 0
		}
		counts[size] = times(choose(n, size), power(256, free))
		for w := range size {
			counts[size].Sub(counts[size], times(counts[w], choose(n-w, size-w)))
		}
	}
	return counts
}

// wantedWrong counts the words close to the code words, not that of zeros, by their bytes that are not 0.
func wantedWrong(c api.Code) []*big.Int {
	n := c.Data + c.Checks
	counts := zeros(n + 1)
	words := wantedWords(c)
	for v := 1; v <= n; v++ {
		for w, count := range around(n, v, c.Fix) {
			counts[w].Add(counts[w], times(words[v], count))
		}
	}
	return counts
}

// around counts the words that differ from a word of n bytes, v of them not 0, at most at fix places, by their bytes that are not 0. It goes through the places one by one.
func around(n, v, fix int) []*big.Int {
	// counts[d][w] is for d different bytes, and w that are not 0.
	counts := make([][]*big.Int, fix+1)
	for d := range counts {
		counts[d] = zeros(n + 1)
	}
	counts[0][0].SetInt64(1)
	for place := range n {
		next := make([][]*big.Int, fix+1)
		for d := range next {
			next[d] = zeros(n + 1)
		}
		add := func(d, w int, count *big.Int, ways int64) {
			if d <= fix && w <= n {
				next[d][w].Add(next[d][w], times(count, big.NewInt(ways)))
			}
		}
		for d := range counts {
			for w, count := range counts[d] {
				if place < v {
					add(d, w+1, count, 1)
					add(d+1, w+1, count, 254)
					add(d+1, w, count, 1)
				} else {
					add(d, w, count, 1)
					add(d+1, w+1, count, 255)
				}
			}
		}
		counts = next
	}
	sum := zeros(n + 1)
	for d := range counts {
		for w, count := range counts[d] {
			sum[w].Add(sum[w], count)
		}
	}
	return sum
}

// weight is the number of bytes that are not 0.
func weight(word []byte) int {
	count := 0
	for _, b := range word {
		if b != 0 {
			count++
		}
	}
	return count
}

// errorsOf calls visit with all errors of w bytes in a word of n bytes whose first byte that is not 0 is 1. With a factor from the field each of them stands for 255, of which symbol.Decode makes the same, times the factor.
func errorsOf(n, w int, visit func(word []byte)) {
	word := make([]byte, n)
	var fill func(place, left int)
	fill = func(place, left int) {
		if left > n-place {
			return
		}
		if place == n {
			visit(word)
			return
		}
		fill(place+1, left)
		if left == 0 {
			return
		}
		last := 255
		if left == w {
			last = 1
		}
		for b := 1; b <= last; b++ {
			word[place] = byte(b)
			fill(place+1, left-1)
		}
		word[place] = 0
	}
	fill(0, w)
}

// isWrong reports what P8.2 asks of an error.
func isWrong(t *testing.T, c api.Code, word []byte) bool {
	t.Helper()
	decoded, err := symbol.Decode(c, word, nil)
	if err != api.OK {
		t.Fatalf("Decode of %v with %v: error %d", word, c, err)
	}
	return (decoded.Outcome == api.Clean || decoded.Outcome == api.Fixed) && weight(decoded.Word) > 0
}

// columns are those of the bits of a word.
func columns(t *testing.T) []byte {
	t.Helper()
	var list []byte
	for bit := range 72 {
		column, err := hamming.Column(bit)
		if err != api.OK {
			t.Fatalf("Column of %d: error %d", bit, err)
		}
		list = append(list, column)
	}
	return list
}

// wantedWrongBits are the numbers of sets that pass, for 0 to 72 bits. Sets are counted by their size and syndrome, one bit after the other.
func wantedWrongBits(t *testing.T) []*big.Int {
	t.Helper()
	list := columns(t)
	counts := make([][]*big.Int, 73)
	for size := range counts {
		counts[size] = zeros(256)
	}
	counts[0][0].SetInt64(1)
	for bit, column := range list {
		for size := bit + 1; size > 0; size-- {
			for syndrome, count := range counts[size] {
				count.Add(count, counts[size-1][syndrome^int(column)])
			}
		}
	}
	wanted := zeros(73)
	// No bit is the word of zeros, and one bit is taken for it.
	for size := 2; size <= 72; size++ {
		wanted[size].Set(counts[size][0])
		for _, column := range list {
			wanted[size].Add(wanted[size], counts[size][column])
		}
	}
	return wanted
}
