package symbol_test

import (
	"bytes"
	"math"
	"math/rand"
	"memfault/api"
	"memfault/symbol"
	"testing"
)

// P7.1
func TestValidCode(t *testing.T) {
	valid := map[api.Code]bool{{Kind: api.CodeBits, Data: 8, Checks: 1, Fix: 1}: true}
	for data := 1; data <= 32; data++ {
		for _, c := range codes(data) {
			valid[c] = true
		}
	}
	numbers := []int{math.MinInt, math.MinInt32, -256, math.MaxInt32, math.MaxInt, 256, 1 << 32}
	from := func(low, high int) []int {
		list := numbers
		for n := low; n <= high; n++ {
			list = append(list[:len(list):len(list)], n)
		}
		return list
	}
	count := 0
	for _, kind := range from(-1, 4) {
		for _, data := range from(-2, 34) {
			for _, checks := range from(-2, 10) {
				for _, fix := range from(-2, 6) {
					c := api.Code{Kind: kind, Data: data, Checks: checks, Fix: fix}
					if got := symbol.ValidCode(c); got != valid[c] {
						t.Errorf("%v is valid: %t", c, got)
					} else if got {
						count++
					}
				}
			}
		}
	}
	if count != 1+32*24 {
		t.Errorf("%d valid codes", count)
	}
}

func TestEncodeExamples(t *testing.T) {
	for _, e := range []struct {
		code       api.Code
		data, want []byte
	}{
		{code(1, 1, 0), []byte{0}, []byte{0, 0}},
		{code(1, 1, 0), []byte{200}, []byte{200, 200}},
		{code(4, 1, 0), []byte{1, 2, 4, 128}, []byte{1, 2, 4, 128, 135}},
		{code(1, 2, 0), []byte{1}, []byte{1, 3, 2}},
		{code(1, 2, 1), []byte{128}, []byte{128, 157, 29}},
		{code(2, 2, 1), []byte{1, 0}, []byte{1, 0, 7, 6}},
		{code(2, 2, 1), []byte{1, 3}, []byte{1, 3, 2, 0}}, // the rest has a lower degree
		{code(2, 2, 1), []byte{3, 5}, []byte{3, 5, 6, 0}},
		{code(1, 3, 1), []byte{1}, []byte{1, 7, 14, 8}},
		{code(3, 4, 2), []byte{0, 0, 0}, make([]byte, 7)},
	} {
		got, err := symbol.Encode(e.code, e.data)
		wantBytes(t, "Encode", e.code, e.data, got, err, e.want, api.OK)
	}
}

// There is just one code word that begins with the data, so it is enough that the result does, and is one.
func TestEncode(t *testing.T) {
	r := rand.New(rand.NewSource(1))
	for data := 1; data <= 32; data++ {
		for _, c := range codes(data) {
			list := [][]byte{make([]byte, data), bytes.Repeat([]byte{255}, data), someBytes(r, data), someBytes(r, data)}
			one := make([]byte, data)
			one[r.Intn(data)] = byte(1 << r.Intn(8))
			for _, given := range append(list, one) {
				got, err := symbol.Encode(c, given)
				if err != api.OK || len(got) != data+c.Checks || !bytes.HasPrefix(got, given) || !isCodeWord(c, got) {
					t.Errorf("Encode of %v with %v: %v, error %d", given, c, got, err)
				}
			}
		}
	}
}

// With one check byte, it is the exclusive or of the data bytes.
func TestOneCheck(t *testing.T) {
	r := rand.New(rand.NewSource(2))
	for data := 1; data <= 32; data++ {
		given, sum := someBytes(r, data), byte(0)
		for _, b := range given {
			sum ^= b
		}
		got, err := symbol.Encode(code(data, 1, 0), given)
		wantBytes(t, "Encode", code(data, 1, 0), given, got, err, append(given[:data:data], sum), api.OK)
	}
}

// P7.2
func TestSyndromesExamples(t *testing.T) {
	for _, e := range []struct {
		code       api.Code
		word, want []byte
	}{
		{code(1, 1, 0), []byte{5, 4}, []byte{1}},
		{code(1, 2, 1), []byte{1, 3, 2}, []byte{0, 0}},
		{code(1, 2, 1), []byte{0, 0, 9}, []byte{9, 9}},
		{code(1, 2, 1), []byte{0, 9, 0}, []byte{9, 18}},
		{code(1, 2, 1), []byte{9, 0, 0}, []byte{9, 36}},
		{code(1, 3, 0), []byte{0, 128, 0, 0}, []byte{128, 58, 232}},
		{code(4, 1, 0), []byte{0, 0, 0, 0, 0}, []byte{0}},
	} {
		got, err := symbol.Syndromes(e.code, e.word)
		wantBytes(t, "Syndromes", e.code, e.word, got, err, e.want, api.OK)
	}
}

func TestSyndromes(t *testing.T) {
	r := rand.New(rand.NewSource(3))
	for data := 1; data <= 32; data++ {
		for _, c := range codes(data) {
			n := data + c.Checks
			one := make([]byte, n)
			one[r.Intn(n)] = byte(1 + r.Intn(255))
			for _, word := range [][]byte{make([]byte, n), bytes.Repeat([]byte{255}, n), someBytes(r, n), one} {
				got, err := symbol.Syndromes(c, word)
				wantBytes(t, "Syndromes", c, word, got, err, wantedSyndromes(c, word), api.OK)
			}
		}
	}
}

// What is wrong with the code comes before a wrong length.
func TestErrInvalid(t *testing.T) {
	for _, c := range wrongCodes() {
		for n := range 50 {
			list := make([]byte, n)
			got, err := symbol.Encode(c, list)
			wantBytes(t, "Encode", c, list, got, err, nil, api.ErrInvalid)
			got, err = symbol.Syndromes(c, list)
			wantBytes(t, "Syndromes", c, list, got, err, nil, api.ErrInvalid)
			for _, erased := range [][]int{nil, {0}, {-1}, {1, 0}, {0, 1, 2, 3, 4, 5, 6, 7, 8}} {
				wantResult(t, c, list, erased, decode(c, list, erased), result{err: api.ErrInvalid})
			}
		}
	}
}

func TestErrSize(t *testing.T) {
	for _, c := range codes(1, 2, 7, 31, 32) {
		for n := range 50 {
			list := bytes.Repeat([]byte{3}, n)
			if n != c.Data {
				got, err := symbol.Encode(c, list)
				wantBytes(t, "Encode", c, list, got, err, nil, api.ErrSize)
			}
			if n == c.Data+c.Checks {
				continue
			}
			got, err := symbol.Syndromes(c, list)
			wantBytes(t, "Syndromes", c, list, got, err, nil, api.ErrSize)
			for _, erased := range [][]int{nil, {0}, {-1}, {1, 0}, {0, 1, 2, 3, 4, 5, 6, 7, 8}} {
				wantResult(t, c, list, erased, decode(c, list, erased), result{err: api.ErrSize})
			}
		}
	}
}

// R2 and R9: arguments stay as they are, and results have memory of their own.
func TestAlone(t *testing.T) {
	r := rand.New(rand.NewSource(4))
	c := code(5, 4, 2)
	word := someCodeWord(t, r, c)
	for _, list := range [][]byte{word, changed(r, word, []int{3}), changed(r, word, []int{0, 8}), changed(r, word, []int{1, 2, 4, 6}), word[:5], nil} {
		for _, erased := range [][]int{nil, {1, 2}, {0, 3, 4, 8}, {4, 3}} {
			wantAlone(t, "Decode", list, erased, func(list []byte, erased []int) result { return decode(c, list, erased) })
		}
		wantAlone(t, "Encode", list, nil, func(list []byte, _ []int) result {
			got, err := symbol.Encode(c, list)
			return result{api.Decoded{Word: got}, err}
		})
		wantAlone(t, "Syndromes", list, nil, func(list []byte, _ []int) result {
			got, err := symbol.Syndromes(c, list)
			return result{api.Decoded{Word: got}, err}
		})
	}
}
