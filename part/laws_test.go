package part_test

import (
	"memfault/api"
	"memfault/part"
	"slices"
	"testing"
)

// At undoes Index, and Index undoes At.
func TestThereAndBack(t *testing.T) {
	for _, bits := range append(bitsUpTo(4), greatBits()...) {
		s := shapeOf(bits)
		for index := range part.Size(s) {
			p, err := part.At(s, index)
			if back, again := part.Index(s, p); back != index || err != api.OK || again != api.OK {
				t.Errorf("%v: %d is %v, and then %d", s, index, p, back)
			}
		}
		for _, p := range places(bits) {
			index, err := part.Index(s, p)
			if back, again := part.At(s, index); back != p || err != api.OK || again != api.OK {
				t.Errorf("%v: %v is %d, and then %v", s, p, index, back)
			}
		}
	}
}

// A cell is covered by the faults of its row, its column, its bank, its chip and its lane.
func TestCellAndItsParts(t *testing.T) {
	for _, bits := range append(bitsUpTo(4), greatBits()...) {
		s := shapeOf(bits)
		for _, p := range places(bits) {
			for _, kind := range kinds {
				f := api.Fault{Kind: kind, Place: cleared(kind, p), Mask: 1}
				if !part.ValidFault(s, 1, f) || !part.Covers(f, p) {
					t.Errorf("%v: %v does not cover %v", s, f, p)
				}
			}
		}
	}
}

// The faults of one kind share out all places evenly among them.
func TestPartsShareOut(t *testing.T) {
	for _, bits := range bitsUpTo(4) {
		s, list := shapeOf(bits), places(bits)
		for _, kind := range kinds {
			times := make([]int, len(list))
			for _, p := range list {
				if cleared(kind, p) == p {
					for _, index := range part.Covered(s, api.Fault{Kind: kind, Place: p}) {
						times[index]++
					}
				}
			}
			if slices.Min(times) != 1 || slices.Max(times) != 1 {
				t.Errorf("%v: kind %d covers the places %v times", s, kind, times)
			}
		}
	}
}

// A row and a column of a bank have one cell in common; those of different banks have none.
func TestRowAndColumn(t *testing.T) {
	for _, bits := range bitsUpTo(4) {
		s, list := shapeOf(bits), places(bits)
		for _, first := range list {
			for _, second := range list {
				row := part.Covered(s, api.Fault{Kind: api.FaultRow, Place: cleared(api.FaultRow, first)})
				column := part.Covered(s, api.Fault{Kind: api.FaultColumn, Place: cleared(api.FaultColumn, second)})
				var common []int
				for _, index := range row {
					if slices.Contains(column, index) {
						common = append(common, index)
					}
				}
				var want []int
				if cleared(api.FaultBank, first) == cleared(api.FaultBank, second) {
					cell := first
					cell.Column = second.Column
					want = []int{slices.Index(list, cell)}
				}
				if !slices.Equal(common, want) {
					t.Errorf("%v: row of %v and column of %v: %v, want %v", s, first, second, common, want)
				}
			}
		}
	}
}
