package hamming_test

import (
	"bytes"
	"math/bits"
	"memfault/api"
	"memfault/hamming"
	"slices"
	"testing"
)

// encode adds the check byte to data.
func encode(t *testing.T, data []byte) []byte {
	t.Helper()
	check, err := hamming.Check(data)
	if err != api.OK {
		t.Fatalf("Check of %v: error %d", data, err)
	}
	return append(bytes.Clone(data), check)
}

// All columns are different and have an odd number of bits.
func TestColumnsAreOddAndDifferent(t *testing.T) {
	bitOf := map[byte]int{}
	for bit := range wordBits {
		column, err := hamming.Column(bit)
		if err != api.OK || bits.OnesCount8(column)%2 == 0 {
			t.Errorf("Column of %d: %d, error %d", bit, column, err)
		}
		if other, found := bitOf[column]; found {
			t.Errorf("bits %d and %d have the column %d", other, bit, column)
		}
		bitOf[column] = bit
	}
}

// A word with its check byte is Clean, one wrong bit is corrected, and two are Lost.
func TestWrongBits(t *testing.T) {
	all := datas()
	for n, data := range all {
		word := encode(t, data)
		wantResult(t, word, decode(word), result{api.Decoded{Outcome: api.Clean, Word: word}, -1, api.OK})
		for i := range wordBits {
			bad := flipped(word, i)
			wantResult(t, bad, decode(bad), result{api.Decoded{Outcome: api.Fixed, Word: word, Chips: []int{i / 8}}, i, api.OK})
		}
		if n%10 > 2 {
			continue
		}
		for i := range wordBits {
			for k := range i {
				bad := flipped(word, i, k)
				wantResult(t, bad, decode(bad), result{api.Decoded{Outcome: api.Lost}, -1, api.OK})
			}
		}
	}
}

// The syndrome of two words together is that of one and that of the other, and a word that was corrected has none.
func TestLawsOfSyndromes(t *testing.T) {
	syndrome := func(word []byte) byte {
		s, err := hamming.Syndrome(word)
		if err != api.OK {
			t.Fatalf("Syndrome of %v: error %d", word, err)
		}
		return s
	}
	all := datas()
	for n, data := range all {
		a, b := append(bytes.Clone(data), byte(n)), append(bytes.Clone(all[len(all)-1-n]), byte(n/8))
		both := slices.Clone(a)
		for k := range both {
			both[k] ^= b[k]
		}
		if syndrome(both) != syndrome(a)^syndrome(b) {
			t.Errorf("%v and %v: %d, %d and together %d", a, b, syndrome(a), syndrome(b), syndrome(both))
		}
		got := decode(a)
		if got.decoded.Outcome == api.Fixed && (syndrome(got.decoded.Word) != 0 || !bytes.Equal(flipped(got.decoded.Word, got.bit), a)) {
			t.Errorf("Decode of %v: %v", a, got)
		}
	}
}
