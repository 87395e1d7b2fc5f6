package register_test

import (
	"math"
	"math/big"
	"math/rand"
	"memfault/api"
	"testing"
)

const all = math.MaxUint64

// empty is register 0 of a shape with no bits and no masks.
const empty = 0x4d00000000000000

// of are registers, or masks.
func of(numbers ...uint64) []uint64 { return numbers }

// shapeOf is the shape with these numbers of bits.
func shapeOf(n [6]int) api.Shape {
	return api.Shape{Socket: n[0], Channel: n[1], Rank: n[2], Bank: n[3], Row: n[4], Column: n[5]}
}

// counted are masks of which no two are equal.
func counted(n int) []uint64 {
	masks := make([]uint64, n)
	for k := range masks {
		masks[k] = 1<<63>>k | uint64(k)
	}
	return masks
}

// registers are those of a map that has no error, added up bit by bit.
func registers(m api.Map) []uint64 {
	s := m.Shape
	first := []string{"01001101", "00000000", "00000000", "00000000"}
	for _, number := range []int{len(m.Masks) >> 4, len(m.Masks) & 15, s.Column, s.Row, s.Bank, s.Rank, s.Channel, s.Socket} {
		first = append(first, binary(number, 4))
	}
	result := []uint64{read(first...), read(binary(m.High, 32), binary(m.Low, 32))}
	return append(result, m.Masks...)
}

// binary writes a number in so many digits.
func binary(number, digits int) string {
	text := ""
	for range digits {
		text = string(rune('0'+number%2)) + text
		number /= 2
	}
	return text
}

// read reads a number of which the parts are in binary digits, the greatest first.
func read(parts ...string) uint64 {
	text := ""
	for _, digits := range parts {
		text += digits
	}
	number, ok := new(big.Int).SetString(text, 2)
	if !ok || len(text) != 64 {
		panic(text)
	}
	return number.Uint64()
}

// edges are addresses that are permitted.
func edges() []int {
	return []int{0, 1, 2, 255, 256, 65535, 65536, 1<<19 + 77, 1<<20 - 1, 1 << 20}
}

// beyond are addresses that are not.
func beyond() []int {
	return []int{math.MinInt, -1 << 32, -1 << 31, -1, 1<<20 + 1, 1 << 21, 1 << 31, 1 << 32, 1<<32 + 1, 1 << 62, math.MaxInt}
}

// wrongShapes are shapes that are not valid.
func wrongShapes() []api.Shape {
	var list []api.Shape
	for k := range 6 {
		for _, width := range []int{math.MinInt, -1 << 32, -16, -1, 13, 15, 16, 1 << 32, math.MaxInt} {
			var n [6]int
			n[k] = width
			list = append(list, shapeOf(n))
		}
		for other := range k {
			var n [6]int
			n[k], n[other] = 6, 7
			list = append(list, shapeOf(n))
			n[k], n[other] = 13, -1
			list = append(list, shapeOf(n))
		}
	}
	return append(list, shapeOf([6]int{2, 2, 2, 2, 2, 3}), shapeOf([6]int{math.MaxInt, math.MaxInt, 2, 0, 0, 0}))
}

// someMap makes a map that has no error.
func someMap(r *rand.Rand) api.Map {
	var n [6]int
	for range r.Intn(13) {
		n[r.Intn(6)]++
	}
	masks := make([]uint64, r.Intn(13))
	for k := range masks {
		masks[k] = r.Uint64() >> r.Intn(65)
	}
	return api.Map{Shape: shapeOf(n), Masks: masks, Low: r.Intn(1<<20+1) >> r.Intn(21), High: r.Intn(1<<20+1) >> r.Intn(21)}
}

// equal compares maps number by number.
func equal(a, b api.Map) bool {
	if a.Shape.Socket != b.Shape.Socket || a.Shape.Channel != b.Shape.Channel || a.Shape.Rank != b.Shape.Rank {
		return false
	}
	if a.Shape.Bank != b.Shape.Bank || a.Shape.Row != b.Shape.Row || a.Shape.Column != b.Shape.Column {
		return false
	}
	if len(a.Masks) != len(b.Masks) || a.Low != b.Low || a.High != b.High {
		return false
	}
	for k, mask := range a.Masks {
		if b.Masks[k] != mask {
			return false
		}
	}
	return true
}

// wantMap checks a map, and that there is no error beside it.
func wantMap(t *testing.T, what string, got api.Map, err api.Errno, want api.Map) {
	t.Helper()
	if err != api.OK || !equal(got, want) {
		t.Errorf("%s: %v, error %d; want %v", what, got, err, want)
	}
}
