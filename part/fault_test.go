package part_test

import (
	"math"
	"memfault/api"
	"memfault/part"
	"slices"
	"testing"
)

// wide has two bits for each number of a place, and inside is a place of it that has no number 0.
var (
	wide   = shapeOf([6]int{2, 2, 2, 2, 2, 2})
	inside = placeOf([6]int{1, 2, 3, 1, 2, 3})
)

// valid is a valid fault of a kind, for wide and 9 chips.
func valid(kind int) api.Fault {
	return api.Fault{Kind: kind, Place: cleared(kind, inside), Chip: 4, Mask: 6, Value: 4, Hard: true}
}

func wantValid(t *testing.T, s api.Shape, chips int, f api.Fault, want bool) {
	t.Helper()
	if got := part.ValidFault(s, chips, f); got != want {
		t.Errorf("ValidFault of %v, %d chips, %+v: %v", s, chips, f, got)
	}
}

// P9.1
func TestValidFaultPlaces(t *testing.T) {
	for _, kind := range kinds {
		f := valid(kind)
		wantValid(t, wide, 9, f, true)
		for k := range 6 {
			named := cleared(kind, placeOf([6]int{1, 1, 1, 1, 1, 1})) != cleared(kind, placeOf(without(k)))
			for _, number := range []int{math.MinInt, -1, 0, 1, 3, 4, 5, math.MaxInt} {
				f.Place = cleared(kind, inside)
				setNumber(&f.Place, k, number)
				wantValid(t, wide, 9, f, number == 0 || named && number > 0 && number < 4)
			}
		}
		for _, s := range wrongShapes() {
			f.Place = api.Place{}
			wantValid(t, s, 9, f, false)
		}
	}
}

// without has a 1 for each number of a place but one.
func without(k int) [6]int {
	ones := [6]int{1, 1, 1, 1, 1, 1}
	ones[k] = 0
	return ones
}

func setNumber(p *api.Place, k, number int) {
	*[]*int{&p.Socket, &p.Channel, &p.Rank, &p.Bank, &p.Row, &p.Column}[k] = number
}

// P9.1
func TestValidFaultKinds(t *testing.T) {
	for _, kind := range noKinds {
		for _, p := range []api.Place{{}, inside} {
			f := valid(api.FaultCell)
			f.Kind, f.Place = kind, p
			wantValid(t, wide, 9, f, false)
		}
	}
}

// P9.1
func TestValidFaultChips(t *testing.T) {
	for _, kind := range kinds {
		for _, chips := range []int{math.MinInt, -9, -1, 0, 1, 2, 9, 40, 64, 65, 1 << 40, math.MaxInt} {
			for _, chip := range []int{math.MinInt, -1, 0, 1, 2, 8, 9, 39, 40, 63, 64, 65, 1 << 40, math.MaxInt} {
				f := valid(kind)
				f.Chip = chip
				wantValid(t, wide, chips, f, chip >= 0 && chip < chips)
			}
		}
	}
}

// P9.1: all masks and values, for each kind.
func TestValidFaultBits(t *testing.T) {
	for _, kind := range kinds {
		f := valid(kind)
		for bits := range 1 << 16 {
			f.Mask, f.Value = byte(bits>>8), byte(bits)
			inMask := f.Mask != 0 && f.Mask|f.Value == f.Mask
			f.Hard = true
			wantValid(t, wide, 9, f, inMask)
			f.Hard = false
			wantValid(t, wide, 9, f, inMask && f.Value == 0)
		}
	}
}

// P9.3: all faults of small shapes, and some outside of them, against the words of the chapter.
func TestCoversAndCovered(t *testing.T) {
	for _, bits := range bitsUpTo(3) {
		s, list := shapeOf(bits), places(bits)
		for _, own := range append(list, placeOf([6]int{-1}), placeOf([6]int{0, 8}), placeOf([6]int{0, 0, 8}), placeOf([6]int{0, 0, 0, -1}), placeOf([6]int{0, 0, 0, 0, 8}), placeOf([6]int{0, 0, 0, 0, 0, math.MaxInt})) {
			for _, kind := range append(kinds, noKinds...) {
				f := api.Fault{Kind: kind, Place: own}
				var want []int
				for index, p := range list {
					if covers(f, p) {
						want = append(want, index)
					}
					if got := part.Covers(f, p); got != covers(f, p) {
						t.Errorf("Covers of %v, %v: %v", f, p, got)
					}
				}
				if got := part.Covered(s, f); !slices.Equal(got, want) {
					t.Errorf("Covered of %v, %v: %v, want %v", s, f, got, want)
				}
			}
		}
	}
}

// P9.3: Covers looks at Kind and the named numbers alone, whatever they are.
func TestCoversNamedNumbersAlone(t *testing.T) {
	numbers := []int{math.MinInt, -1, 0, 3, math.MaxInt}
	for _, kind := range append(kinds, noKinds...) {
		for k := range 6 {
			for _, a := range numbers {
				for _, b := range numbers {
					p, f := inside, api.Fault{Kind: kind, Place: inside, Chip: -1, Value: 1}
					setNumber(&p, k, a)
					setNumber(&f.Place, k, b)
					if got := part.Covers(f, p); got != covers(f, p) {
						t.Errorf("Covers of %v, %v: %v", f, p, got)
					}
				}
			}
		}
	}
}

// P9.3: in great shapes.
func TestCoveredGreat(t *testing.T) {
	for _, bits := range greatBits() {
		s, list := shapeOf(bits), places(bits)
		for _, kind := range append(kinds, noKinds...) {
			for _, own := range []int{0, 1, 1000, 2730, 4095} {
				f := api.Fault{Kind: kind, Place: list[own]}
				var want []int
				for index, p := range list {
					if covers(f, p) {
						want = append(want, index)
					}
				}
				if got := part.Covered(s, f); !slices.Equal(got, want) {
					t.Errorf("Covered of %v, %v: %d indices, want %d", s, f, len(got), len(want))
				}
			}
		}
	}
}

// P9.3: nothing of a shape that is not valid.
func TestCoveredWrongShapes(t *testing.T) {
	for _, s := range wrongShapes() {
		for _, kind := range append(kinds, noKinds...) {
			if got := part.Covered(s, api.Fault{Kind: kind}); len(got) != 0 {
				t.Errorf("Covered of %v, kind %d: %v", s, kind, got)
			}
		}
	}
}

// R2
func TestCoveredIsNew(t *testing.T) {
	s, f := api.Shape{Row: 1, Column: 1}, api.Fault{Kind: api.FaultColumn, Place: api.Place{Column: 1}}
	got := part.Covered(s, f)
	if !slices.Equal(got, []int{1, 3}) {
		t.Fatalf("the example: %v", got)
	}
	got = append(got[:0], 7, 7)
	if again := part.Covered(s, f); !slices.Equal(again, []int{1, 3}) {
		t.Errorf("after a change of %v: %v", got, again)
	}
}
