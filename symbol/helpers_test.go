package symbol_test

import (
	"bytes"
	"math/rand"
	"memfault/api"
	"memfault/symbol"
	"slices"
	"testing"
)

// code is a symbol code.
func code(data, checks, fix int) api.Code {
	return api.Code{Kind: api.CodeSymbols, Data: data, Checks: checks, Fix: fix}
}

// codes are all valid symbol codes with one of the given numbers of data bytes.
func codes(datas ...int) []api.Code {
	var list []api.Code
	for _, data := range datas {
		for checks := 1; checks <= 8; checks++ {
			for fix := 0; 2*fix <= checks; fix++ {
				list = append(list, code(data, checks, fix))
			}
		}
	}
	return list
}

// wrongCodes are codes that are not valid, or of the other kind.
func wrongCodes() []api.Code {
	list := []api.Code{
		{},
		{Kind: api.CodeBits, Data: 8, Checks: 1, Fix: 1},
		{Kind: api.CodeBits, Data: 4, Checks: 2, Fix: 1},
		{Kind: 0, Data: 4, Checks: 2, Fix: 1},
		{Kind: 3, Data: 4, Checks: 2, Fix: 1},
		{Kind: -1, Data: 4, Checks: 2, Fix: 1},
	}
	for _, sizes := range [][3]int{{0, 2, 1}, {-4, 2, 1}, {33, 2, 1}, {4, 0, 0}, {4, -2, 0}, {4, -2, -1}, {4, 9, 1}, {4, 2, -1}, {4, 1, 1}, {4, 2, 2}, {4, 8, 5}} {
		list = append(list, code(sizes[0], sizes[1], sizes[2]))
	}
	return list
}

// product multiplies two elements of the field: polynomials over two elements, reduced from the highest term down.
func product(a, b byte) byte {
	sum := 0
	for k := range 8 {
		if b>>k&1 == 1 {
			sum ^= int(a) << k
		}
	}
	for k := 14; k >= 8; k-- {
		if sum>>k&1 == 1 {
			sum ^= 0x11d << (k - 8)
		}
	}
	return byte(sum)
}

// twoTo is the product of n factors 2.
func twoTo(n int) byte {
	p := byte(1)
	for range n {
		p = product(p, 2)
	}
	return p
}

// valueAt adds up the terms of a word at x, from its last byte on.
func valueAt(word []byte, x byte) byte {
	sum, power := byte(0), byte(1)
	for i := len(word) - 1; i >= 0; i-- {
		sum ^= product(word[i], power)
		power = product(power, x)
	}
	return sum
}

// wantedSyndromes are the values of a word at the powers of 2 that the code looks at.
func wantedSyndromes(c api.Code, word []byte) []byte {
	var list []byte
	for k := range c.Checks {
		list = append(list, valueAt(word, twoTo(k)))
	}
	return list
}

func isCodeWord(c api.Code, word []byte) bool {
	return bytes.Count(wantedSyndromes(c, word), []byte{0}) == c.Checks
}

// codeWords are all code words of a code: all multiples of the product of x + 2^k, for k below the number of checks.
func codeWords(c api.Code) [][]byte {
	factor := []byte{1}
	for k := range c.Checks {
		next := append(bytes.Clone(factor), 0)
		for i, b := range factor {
			next[i+1] ^= product(b, twoTo(k))
		}
		factor = next
	}
	list := [][]byte{make([]byte, c.Data+c.Checks)}
	for shift := range c.Data {
		for _, word := range list[:len(list):len(list)] {
			for multiple := 1; multiple < 256; multiple++ {
				other := bytes.Clone(word)
				for i, b := range factor {
					other[shift+i] ^= product(b, byte(multiple))
				}
				list = append(list, other)
			}
		}
	}
	return list
}

// result is all that Decode returns.
type result struct {
	decoded api.Decoded
	err     api.Errno
}

func decode(c api.Code, word []byte, erased []int) result {
	decoded, err := symbol.Decode(c, word, erased)
	return result{decoded, err}
}

func (r result) equal(other result) bool {
	a, b := r.decoded, other.decoded
	return a.Outcome == b.Outcome && bytes.Equal(a.Word, b.Word) && slices.Equal(a.Chips, b.Chips) && r.err == other.err
}

// most is how many places that are not erased may be wrong.
func most(c api.Code, erased []int) int {
	if left := (c.Checks - len(erased)) / 2; left < c.Fix {
		return left
	}
	return c.Fix
}

func lost() result { return result{decoded: api.Decoded{Outcome: api.Lost}} }

// became is the result if the word was taken for another one, or for itself.
func became(word, other []byte) result {
	chips := places(word, other)
	outcome := api.Fixed
	if len(chips) == 0 {
		outcome = api.Clean
	}
	return result{decoded: api.Decoded{Outcome: outcome, Word: other, Chips: chips}}
}

// places are those at which two words differ.
func places(word, other []byte) []int {
	var list []int
	for i, b := range word {
		if b != other[i] {
			list = append(list, i)
		}
	}
	return list
}

// wanted is what Decode should return, found by looking through all the code words.
func wanted(t *testing.T, c api.Code, words [][]byte, word []byte, erased []int) result {
	t.Helper()
	want, count := lost(), 0
	for _, other := range words {
		wrong := 0
		for i, b := range word {
			if b != other[i] && !slices.Contains(erased, i) {
				wrong++
			}
		}
		if wrong <= most(c, erased) {
			want = became(word, other)
			count++
		}
	}
	if count > 1 {
		t.Fatalf("%v: %d code words are close to %v without %v", c, count, word, erased)
	}
	return want
}

// someBytes makes random bytes.
func someBytes(r *rand.Rand, n int) []byte {
	list := make([]byte, n)
	r.Read(list)
	return list
}

// somePlaces are count different ones of n places, ascending, and then the others, in no order.
func somePlaces(r *rand.Rand, n, count int) (chosen, others []int) {
	all := r.Perm(n)
	chosen, others = all[:count:count], all[count:]
	slices.Sort(chosen)
	return chosen, others
}

// changed copies a word with other bytes at places.
func changed(r *rand.Rand, word []byte, places []int) []byte {
	other := bytes.Clone(word)
	for _, i := range places {
		other[i] ^= byte(1 + r.Intn(255))
	}
	return other
}

// someCodeWord encodes random data.
func someCodeWord(t *testing.T, r *rand.Rand, c api.Code) []byte {
	t.Helper()
	word, err := symbol.Encode(c, someBytes(r, c.Data))
	if err != api.OK || !isCodeWord(c, word) {
		t.Fatalf("Encode with %v: %v, error %d", c, word, err)
	}
	return word
}

func wantBytes(t *testing.T, what string, c api.Code, argument, got []byte, err api.Errno, want []byte, code api.Errno) {
	t.Helper()
	if !bytes.Equal(got, want) || err != code {
		t.Errorf("%s of %v with %v: %v, error %d; want %v, error %d", what, argument, c, got, err, want, code)
	}
}

func wantResult(t *testing.T, c api.Code, word []byte, erased []int, got, want result) {
	t.Helper()
	if !got.equal(want) {
		t.Errorf("Decode of %v without %v with %v: %v; want %v", word, erased, c, got, want)
	}
}

// wantAlone checks that a call changes neither its arguments nor what lies behind them, and that what is done to one result changes neither the arguments, nor its other part, nor the next result.
func wantAlone(t *testing.T, what string, list []byte, places []int, call func(list []byte, places []int) result) {
	t.Helper()
	whole := append(append(make([]byte, 0, len(list)+3), list...), 7, 8, 9)
	allPlaces := append(append(make([]int, 0, len(places)+2), places...), 7, 8)
	before, placesBefore := bytes.Clone(whole), slices.Clone(allPlaces)
	given, gone := whole[:len(list)], allPlaces[:len(places)]
	first, second := call(given, gone), call(given, gone)
	kept := result{api.Decoded{Outcome: second.decoded.Outcome, Word: bytes.Clone(second.decoded.Word), Chips: slices.Clone(second.decoded.Chips)}, second.err}
	for k := range first.decoded.Word[:cap(first.decoded.Word)] {
		first.decoded.Word[:cap(first.decoded.Word)][k] ^= 255
	}
	for k := range first.decoded.Chips[:cap(first.decoded.Chips)] {
		first.decoded.Chips[:cap(first.decoded.Chips)][k] ^= -1
	}
	if !bytes.Equal(whole, before) || !slices.Equal(allPlaces, placesBefore) {
		t.Errorf("%s: the arguments %v, %v were changed", what, list, places)
	}
	if !second.equal(kept) || !call(given, gone).equal(kept) {
		t.Errorf("%s: results for %v, %v share memory", what, list, places)
	}
}
