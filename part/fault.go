package part

import "memfault/api"

// named says which numbers of its place a fault of each kind names.
var named = [...][count]bool{
	api.FaultCell:   {socket: true, channel: true, rank: true, bank: true, row: true, column: true},
	api.FaultRow:    {socket: true, channel: true, rank: true, bank: true, row: true},
	api.FaultColumn: {socket: true, channel: true, rank: true, bank: true, column: true},
	api.FaultBank:   {socket: true, channel: true, rank: true, bank: true},
	api.FaultChip:   {socket: true, channel: true, rank: true},
	api.FaultLane:   {socket: true, channel: true},
}

// ValidFault reports whether a fault is valid for a shape and a number of chips.
func ValidFault(s api.Shape, chips int, f api.Fault) bool {
	if !known(f.Kind) || !ValidPlace(s, f.Place) || !onlyNamed(f) {
		return false
	}
	if f.Chip < 0 || f.Chip >= chips {
		return false
	}
	if f.Mask == 0 || f.Value&^f.Mask != 0 {
		return false
	}
	return f.Hard || f.Value == 0
}

// Covers reports whether a fault covers a place.
func Covers(f api.Fault, p api.Place) bool {
	if !known(f.Kind) {
		return false
	}
	own, other := ofPlace(f.Place), ofPlace(p)
	for number, counts := range named[f.Kind] {
		if counts && own[number] != other[number] {
			return false
		}
	}
	return true
}

// Covered returns the indices, ascending, of the places of a shape that a fault covers.
func Covered(s api.Shape, f api.Fault) []int {
	var indices []int
	for index := range Size(s) {
		if place, _ := At(s, index); Covers(f, place) {
			indices = append(indices, index)
		}
	}
	return indices
}

// known reports whether there are faults of a kind.
func known(kind int) bool {
	return kind >= api.FaultCell && kind <= api.FaultLane
}

// onlyNamed reports whether the place of a fault of a known kind is 0 where it is not named.
func onlyNamed(f api.Fault) bool {
	own := ofPlace(f.Place)
	for number, counts := range named[f.Kind] {
		if !counts && own[number] != 0 {
			return false
		}
	}
	return true
}
