package part_test

import (
	"math"
	"memfault/api"
	"memfault/part"
	"testing"
)

// P9.1
func TestValidAndSize(t *testing.T) {
	for _, bits := range append(bitsUpTo(4), greatBits()...) {
		s := shapeOf(bits)
		if !part.Valid(s) {
			t.Errorf("%v is not valid", s)
		}
		if got, want := part.Size(s), len(places(bits)); got != want {
			t.Errorf("Size of %v: %d, want %d", s, got, want)
		}
	}
	for _, s := range wrongShapes() {
		if part.Valid(s) || part.Size(s) != 0 {
			t.Errorf("%v is valid, with the size %d", s, part.Size(s))
		}
	}
}

// P9.1 and P9.2
func TestPlacesInOrder(t *testing.T) {
	for _, bits := range append(bitsUpTo(4), greatBits()...) {
		s := shapeOf(bits)
		for index, p := range places(bits) {
			if !part.ValidPlace(s, p) {
				t.Errorf("%v: %v is not valid", s, p)
			}
			if got, err := part.Index(s, p); got != index || err != api.OK {
				t.Errorf("%v: Index of %v: %d, error %d, want %d", s, p, got, err, index)
			}
			if got, err := part.At(s, index); got != p || err != api.OK {
				t.Errorf("%v: At %d: %v, error %d, want %v", s, index, got, err, p)
			}
		}
	}
}

// P9.1 and P9.2
func TestPlacesOutside(t *testing.T) {
	for _, bits := range append(bitsUpTo(3), greatBits()...) {
		s := shapeOf(bits)
		var last [6]int
		for k, n := range bits {
			last[k] = 1<<n - 1
		}
		for _, near := range [][6]int{{}, last} {
			for k, n := range bits {
				for _, number := range []int{math.MinInt, -1 << 32, -1, 1 << n, 1<<n + 1, 1 << 32, math.MaxInt} {
					changed := near
					changed[k] = number
					wantOutside(t, s, placeOf(changed))
				}
			}
		}
	}
}

func wantOutside(t *testing.T, s api.Shape, p api.Place) {
	t.Helper()
	if part.ValidPlace(s, p) {
		t.Errorf("%v: %v is valid", s, p)
	}
	if got, err := part.Index(s, p); got != 0 || err != api.ErrRange {
		t.Errorf("%v: Index of %v: %d, error %d", s, p, got, err)
	}
}

// P9.2
func TestIndicesOutside(t *testing.T) {
	for _, bits := range append(bitsUpTo(3), greatBits()...) {
		s, size := shapeOf(bits), len(places(bits))
		for _, index := range []int{math.MinInt, -size, -2, -1, size, size + 1, 2 * size, 1 << 32, math.MaxInt} {
			if got, err := part.At(s, index); got != (api.Place{}) || err != api.ErrRange {
				t.Errorf("%v: At %d: %v, error %d", s, index, got, err)
			}
		}
	}
}

// P9.1 and P9.2: a shape that is not valid comes before all else.
func TestWrongShapes(t *testing.T) {
	for _, s := range wrongShapes() {
		for _, p := range []api.Place{{}, {Column: 1}, {Socket: -1}, {Row: math.MaxInt}, {Bank: math.MinInt}} {
			if part.ValidPlace(s, p) {
				t.Errorf("%v: %v is valid", s, p)
			}
			if got, err := part.Index(s, p); got != 0 || err != api.ErrInvalid {
				t.Errorf("%v: Index of %v: %d, error %d", s, p, got, err)
			}
		}
		for _, index := range []int{math.MinInt, -1, 0, 1, 4096, math.MaxInt} {
			if got, err := part.At(s, index); got != (api.Place{}) || err != api.ErrInvalid {
				t.Errorf("%v: At %d: %v, error %d", s, index, got, err)
			}
		}
	}
}
