package hamming_test

import (
	"math"
	"math/rand"
	"memfault/api"
	"memfault/hamming"
	"testing"
)

func decode(word []byte) result {
	decoded, bit, err := hamming.Decode(word)
	return result{decoded, bit, err}
}

// P6.1
func TestColumn(t *testing.T) {
	for bit, want := range wantedColumns() {
		got, err := hamming.Column(bit)
		wantByte(t, "Column", bit, got, err, want, api.OK)
	}
	for bit, want := range map[int]byte{0: 7, 1: 11, 55: 224, 56: 31, 57: 47, 63: 87, 64: 1, 65: 2, 70: 64, 71: 128} {
		got, err := hamming.Column(bit)
		wantByte(t, "Column", bit, got, err, want, api.OK)
	}
	for _, bit := range []int{-1, 72, 73, -72, 255, 256, 1 << 32, -1 << 32, math.MinInt, math.MaxInt} {
		got, err := hamming.Column(bit)
		wantByte(t, "Column", bit, got, err, 0, api.ErrRange)
	}
}

func TestCheck(t *testing.T) {
	columns := wantedColumns()
	for _, data := range datas() {
		got, err := hamming.Check(data)
		wantByte(t, "Check", data, got, err, syndromeOf(columns, data), api.OK)
	}
}

func TestSyndrome(t *testing.T) {
	columns := wantedColumns()
	for _, data := range datas() {
		for _, check := range []byte{0, 1, 31, 128, 255, data[0], data[7]} {
			word := append(data[:8:8], check)
			got, err := hamming.Syndrome(word)
			wantByte(t, "Syndrome", word, got, err, syndromeOf(columns, word), api.OK)
		}
	}
	for bit, want := range columns {
		word := flipped(make([]byte, 9), bit)
		got, err := hamming.Syndrome(word)
		wantByte(t, "Syndrome", word, got, err, want, api.OK)
	}
}

// Of all check bytes, the one that Check returns and no other gives the syndrome 0.
func TestCheckOfSyndrome(t *testing.T) {
	for _, data := range datas() {
		want, err := hamming.Check(data)
		for check := range 256 {
			got, code := hamming.Syndrome(append(data[:8:8], byte(check)))
			if (got == 0) != (byte(check) == want) || err != api.OK || code != api.OK {
				t.Fatalf("%v: Check %d, error %d, and for %d the Syndrome %d, error %d", data, want, err, check, got, code)
			}
		}
	}
}

func TestSizes(t *testing.T) {
	r := rand.New(rand.NewSource(2))
	for _, fill := range []func(n int) []byte{func(n int) []byte { return make([]byte, n) }, func(n int) []byte { return someBytes(r, n) }} {
		for n := range 100 {
			list := fill(n)
			if n == 0 {
				list = nil
			}
			if n != 8 {
				got, err := hamming.Check(list)
				wantByte(t, "Check", list, got, err, 0, api.ErrSize)
			}
			if n != 9 {
				got, err := hamming.Syndrome(list)
				wantByte(t, "Syndrome", list, got, err, 0, api.ErrSize)
				wantResult(t, list, decode(list), result{err: api.ErrSize})
			}
		}
	}
}

// P6.2
func TestDecodeExamples(t *testing.T) {
	for _, c := range []struct {
		word []byte
		want result
	}{
		{[]byte{0, 0, 0, 0, 0, 0, 0, 0, 0}, result{api.Decoded{Outcome: api.Clean, Word: make([]byte, 9)}, -1, api.OK}},
		{[]byte{1, 0, 0, 0, 0, 0, 0, 0, 7}, result{api.Decoded{Outcome: api.Clean, Word: []byte{1, 0, 0, 0, 0, 0, 0, 0, 7}}, -1, api.OK}},
		{[]byte{1, 0, 0, 0, 0, 0, 0, 0, 0}, result{api.Decoded{Outcome: api.Fixed, Word: make([]byte, 9), Chips: []int{0}}, 0, api.OK}},
		{[]byte{0, 0, 0, 0, 0, 0, 0, 0, 7}, result{api.Decoded{Outcome: api.Fixed, Word: []byte{1, 0, 0, 0, 0, 0, 0, 0, 7}, Chips: []int{0}}, 0, api.OK}},
		{[]byte{0, 0, 0, 0, 0, 0, 0, 128, 0}, result{api.Decoded{Outcome: api.Fixed, Word: make([]byte, 9), Chips: []int{7}}, 63, api.OK}},
		{[]byte{0, 0, 0, 0, 0, 0, 0, 0, 128}, result{api.Decoded{Outcome: api.Fixed, Word: make([]byte, 9), Chips: []int{8}}, 71, api.OK}},
		{[]byte{0, 0, 0, 0, 0, 0, 0, 0, 31}, result{api.Decoded{Outcome: api.Fixed, Word: []byte{0, 0, 0, 0, 0, 0, 0, 1, 31}, Chips: []int{7}}, 56, api.OK}},
		{[]byte{0, 0, 0, 0, 0, 0, 0, 0, 3}, result{api.Decoded{Outcome: api.Lost}, -1, api.OK}},
		// 91 is the least byte with five bits that is no column, 127 has seven bits.
		{[]byte{0, 0, 0, 0, 0, 0, 0, 0, 91}, result{api.Decoded{Outcome: api.Lost}, -1, api.OK}},
		{[]byte{0, 0, 0, 0, 0, 0, 0, 0, 127}, result{api.Decoded{Outcome: api.Lost}, -1, api.OK}},
		{[]byte{0, 0, 0, 0, 0, 0, 0, 0, 255}, result{api.Decoded{Outcome: api.Lost}, -1, api.OK}},
	} {
		wantResult(t, c.word, decode(c.word), c.want)
	}
}

// Each syndrome occurs with each of the data.
func TestDecode(t *testing.T) {
	columns := wantedColumns()
	for _, data := range datas() {
		for check := range 256 {
			word := append(data[:8:8], byte(check))
			wantResult(t, word, decode(word), wanted(columns, word))
		}
	}
}

// Three wrong bits are Lost, or taken for a single other one.
func TestDecodeThreeWrongBits(t *testing.T) {
	columns := wantedColumns()
	word := someCodeWord(columns)
	for i := range wordBits {
		for j := range i {
			for k := range j {
				bad := flipped(word, i, j, k)
				wantResult(t, bad, decode(bad), wanted(columns, bad))
			}
		}
	}
}

// R2 and R9: arguments stay as they are, and results have memory of their own.
func TestAlone(t *testing.T) {
	word := someCodeWord(wantedColumns())
	for _, list := range [][]byte{word, flipped(word, 3), flipped(word, 60), flipped(word, 68), flipped(word, 3, 60), word[:8], nil} {
		wantAlone(t, list, decode)
		wantAlone(t, list, func(list []byte) result {
			check, err := hamming.Check(list)
			return result{bit: int(check), err: err}
		})
		wantAlone(t, list, func(list []byte) result {
			syndrome, err := hamming.Syndrome(list)
			return result{bit: int(syndrome), err: err}
		})
	}
}
