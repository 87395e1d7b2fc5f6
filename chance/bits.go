package chance

import (
	"math/bits"
	"memfault/api"
	"memfault/hamming"
	"memfault/nat"
)

// wordBits is the number of bits of a word of package hamming.
const wordBits = 72

// WrongBits returns the number of sets of w wrong bits that are taken for another code word than that of zeros.
func WrongBits(w int) (api.Nat, api.Errno) {
	if w < 0 || w > wordBits {
		return api.Nat{}, api.ErrRange
	}
	// A set that passes is a code word, or one of which a bit is missing, or one with a bit too many. It is so in one way only, because all columns are different and none is 0.
	counts := characters()
	missing := product(number(w+1), bitWords(counts, w+1))
	extra := product(number(wordBits-w+1), bitWords(counts, w-1))
	return plus(bitWords(counts, w), plus(missing, extra)), api.OK
}

// bitWords returns the number of code words with w bits that are 1, but for that of zeros.
func bitWords(counts [wordBits + 1]int, w int) api.Nat {
	if w < 1 {
		return api.Nat{}
	}
	// A character is 1 or -1 on each set of bits, as an even or odd number of their columns is odd on it. All characters add up to their number on a code word, and to 0 on any other set.
	sum := alternating(w, func(odd int) api.Nat { return sets(counts, odd, w-odd) })
	quotient, _, _ := nat.Divide(sum, number(values))
	return quotient
}

// sets adds up, for all characters, the numbers of sets of so many odd and even columns.
func sets(counts [wordBits + 1]int, odd, even int) api.Nat {
	sum := api.Nat{}
	for columns, count := range counts {
		if count > 0 {
			sum = plus(sum, product(number(count), choose(columns, odd), choose(wordBits-columns, even)))
		}
	}
	return sum
}

// characters counts the characters of a syndrome by how many columns are odd on them. A character is a byte; a column is odd on it if they have an odd number of bits in common.
func characters() [wordBits + 1]int {
	var columns [wordBits]byte
	for bit := range columns {
		columns[bit], _ = hamming.Column(bit)
	}
	var counts [wordBits + 1]int
	for character := range values {
		odd := 0
		for _, column := range columns {
			odd += bits.OnesCount8(column&byte(character)) % 2
		}
		counts[odd]++
	}
	return counts
}
