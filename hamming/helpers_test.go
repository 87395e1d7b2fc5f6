package hamming_test

import (
	"bytes"
	"math/rand"
	"memfault/api"
	"slices"
	"testing"
)

// wordBits are the bits of a code word.
const wordBits = 72

// wantedColumns are the columns in the order of their bits, made from the positions of their own bits.
func wantedColumns() []byte {
	var three, five, one []byte
	for i := range 8 {
		one = append(one, 1<<i)
		for j := range i {
			for k := range j {
				three = append(three, 1<<i+1<<j+1<<k)
				// A byte has five bits where another one has the other three not.
				five = append(five, 255-(1<<i+1<<j+1<<k))
			}
		}
	}
	slices.Sort(three)
	slices.Sort(five)
	return slices.Concat(three, five[:8], one)
}

// flipped copies the word with the given bits turned over.
func flipped(word []byte, list ...int) []byte {
	other := bytes.Clone(word)
	for _, bit := range list {
		if value := byte(1) << (bit % 8); other[bit/8]&value == 0 {
			other[bit/8] += value
		} else {
			other[bit/8] -= value
		}
	}
	return other
}

// syndromeOf goes through the bits of a word, or of its first bytes, one by one.
func syndromeOf(columns, word []byte) byte {
	sum := byte(0)
	for bit := range 8 * len(word) {
		if word[bit/8]>>(bit%8)%2 == 1 {
			sum ^= columns[bit]
		}
	}
	return sum
}

// someBytes makes random bytes.
func someBytes(r *rand.Rand, n int) []byte {
	list := make([]byte, n)
	r.Read(list)
	return list
}

// datas are data bytes: zeros, ones, each bit alone, all bits but one, and random ones.
func datas() [][]byte {
	zeros, ones := make([]byte, 8), bytes.Repeat([]byte{255}, 8)
	list := [][]byte{zeros, ones}
	for bit := range 64 {
		list = append(list, flipped(zeros, bit), flipped(ones, bit))
	}
	r := rand.New(rand.NewSource(1))
	for range 200 {
		list = append(list, someBytes(r, 8))
	}
	return list
}

// someCodeWord is a code word with data of no special form.
func someCodeWord(columns []byte) []byte {
	data := []byte{1, 200, 3, 40, 5, 60, 7, 80}
	return append(data, syndromeOf(columns, data))
}

// result is all that Decode returns.
type result struct {
	decoded api.Decoded
	bit     int
	err     api.Errno
}

// wanted is what Decode should return, found by turning over each bit of the word in turn.
func wanted(columns, word []byte) result {
	if syndromeOf(columns, word) == 0 {
		return result{api.Decoded{Outcome: api.Clean, Word: word}, -1, api.OK}
	}
	for bit := range wordBits {
		if other := flipped(word, bit); syndromeOf(columns, other) == 0 {
			return result{api.Decoded{Outcome: api.Fixed, Word: other, Chips: []int{bit / 8}}, bit, api.OK}
		}
	}
	return result{api.Decoded{Outcome: api.Lost}, -1, api.OK}
}

func (r result) equal(other result) bool {
	a, b := r.decoded, other.decoded
	return a.Outcome == b.Outcome && bytes.Equal(a.Word, b.Word) && slices.Equal(a.Chips, b.Chips) && r.bit == other.bit && r.err == other.err
}

func wantByte(t *testing.T, what string, argument any, got byte, err api.Errno, want byte, code api.Errno) {
	t.Helper()
	if got != want || err != code {
		t.Errorf("%s of %v: %d, error %d; want %d, error %d", what, argument, got, err, want, code)
	}
}

func wantResult(t *testing.T, word []byte, got, want result) {
	t.Helper()
	if !got.equal(want) {
		t.Errorf("Decode of %v: %v; want %v", word, got, want)
	}
}

// wantAlone checks that a call changes neither its argument nor what lies behind it, and that what is done to one result changes neither the argument nor the next result.
func wantAlone(t *testing.T, argument []byte, call func(list []byte) result) {
	t.Helper()
	whole := append(append(make([]byte, 0, len(argument)+3), argument...), 7, 8, 9)
	given, before := whole[:len(argument)], bytes.Clone(whole)
	first, second := call(given), call(given)
	kept := result{api.Decoded{Outcome: second.decoded.Outcome, Word: bytes.Clone(second.decoded.Word), Chips: slices.Clone(second.decoded.Chips)}, second.bit, second.err}
	for k := range first.decoded.Word[:cap(first.decoded.Word)] {
		first.decoded.Word[:cap(first.decoded.Word)][k] ^= 255
	}
	for k := range first.decoded.Chips[:cap(first.decoded.Chips)] {
		first.decoded.Chips[:cap(first.decoded.Chips)][k] ^= -1
	}
	if !second.equal(kept) || !call(given).equal(kept) {
		t.Errorf("results for %v share memory", argument)
	}
	if !bytes.Equal(whole, before) {
		t.Errorf("the argument %v was changed", argument)
	}
}
