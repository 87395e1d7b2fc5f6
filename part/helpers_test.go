package part_test

import (
	"math"
	"memfault/api"
)

// kinds are all kinds of faults.
var kinds = []int{api.FaultCell, api.FaultRow, api.FaultColumn, api.FaultBank, api.FaultChip, api.FaultLane}

// noKinds are numbers that are no kinds of faults.
var noKinds = []int{math.MinInt, -1, 0, 7, 8, 1 << 40, math.MaxInt}

// shapeOf is the shape with these numbers of bits.
func shapeOf(n [6]int) api.Shape {
	return api.Shape{Socket: n[0], Channel: n[1], Rank: n[2], Bank: n[3], Row: n[4], Column: n[5]}
}

// placeOf is the place with these numbers.
func placeOf(n [6]int) api.Place {
	return api.Place{Socket: n[0], Channel: n[1], Rank: n[2], Bank: n[3], Row: n[4], Column: n[5]}
}

// tuples are all lists of six numbers, each below its limit, in order: the first number is the most significant one.
func tuples(limits [6]int) [][6]int {
	list := [][6]int{{}}
	for k, limit := range limits {
		var longer [][6]int
		for _, tuple := range list {
			for number := range limit {
				tuple[k] = number
				longer = append(longer, tuple)
			}
		}
		list = longer
	}
	return list
}

// bitsUpTo are the numbers of bits of all shapes with at most so many together.
func bitsUpTo(most int) [][6]int {
	var list [][6]int
	for _, bits := range tuples([6]int{most + 1, most + 1, most + 1, most + 1, most + 1, most + 1}) {
		if bits[0]+bits[1]+bits[2]+bits[3]+bits[4]+bits[5] <= most {
			list = append(list, bits)
		}
	}
	return list
}

// greatBits are numbers of bits of shapes with MaxBits together.
func greatBits() [][6]int {
	list := [][6]int{{2, 2, 2, 2, 2, 2}, {1, 0, 2, 3, 0, 6}, {0, 1, 1, 2, 5, 3}, {1, 1, 1, 2, 3, 4}}
	for k := range 6 {
		var bits [6]int
		bits[k] = 12
		list = append(list, bits)
	}
	return list
}

// places are all places of the shape with these numbers of bits, in the order of their indices.
func places(bits [6]int) []api.Place {
	var limits [6]int
	for k, n := range bits {
		limits[k] = 1 << n
	}
	var list []api.Place
	for _, tuple := range tuples(limits) {
		list = append(list, placeOf(tuple))
	}
	return list
}

// wrongShapes are shapes that are not valid.
func wrongShapes() []api.Shape {
	var list []api.Shape
	for k := range 6 {
		for _, n := range []int{math.MinInt, -1 << 32, -12, -1, 13, 62, 63, 64, 1 << 32, 1 << 62, math.MaxInt} {
			var bits [6]int
			bits[k] = n
			list = append(list, shapeOf(bits))
			// A negative number is not made up for by the others.
			bits[(k+1)%6] = 5
			list = append(list, shapeOf(bits))
		}
		for other := range 6 {
			for _, pair := range [][2]int{{12, 1}, {6, 7}, {1 << 62, 1 << 62}, {math.MaxInt, math.MaxInt}, {math.MaxInt, 1}, {math.MaxInt, math.MinInt}, {math.MinInt, math.MinInt}, {math.MinInt + 6, math.MinInt + 6}, {-1, 13}, {-1, 1}} {
				var bits [6]int
				bits[k], bits[other] = pair[0], pair[1]
				if k != other {
					list = append(list, shapeOf(bits))
				}
			}
		}
	}
	return append(list,
		shapeOf([6]int{2, 2, 2, 2, 2, 3}),
		shapeOf([6]int{13, 13, 13, 13, 13, 13}),
		shapeOf([6]int{1 << 62, 1 << 62, 1 << 62, 1 << 62, 0, 0}),
		shapeOf([6]int{1 << 62, 1 << 62, 1 << 62, 1 << 62, 1, 1}),
		shapeOf([6]int{math.MaxInt, math.MaxInt, 2, 0, 0, 0}),
	)
}

// covers says whether a fault covers a place, as chapter 9 lists what each kind names.
func covers(f api.Fault, p api.Place) bool {
	own, lane := f.Place, f.Place.Socket == p.Socket && f.Place.Channel == p.Channel
	switch f.Kind {
	case api.FaultCell:
		return own == p
	case api.FaultRow:
		return lane && own.Rank == p.Rank && own.Bank == p.Bank && own.Row == p.Row
	case api.FaultColumn:
		return lane && own.Rank == p.Rank && own.Bank == p.Bank && own.Column == p.Column
	case api.FaultBank:
		return lane && own.Rank == p.Rank && own.Bank == p.Bank
	case api.FaultChip:
		return lane && own.Rank == p.Rank
	case api.FaultLane:
		return lane
	}
	return false
}

// cleared is a place without the numbers that a kind does not name.
func cleared(kind int, p api.Place) api.Place {
	switch kind {
	case api.FaultRow:
		p.Column = 0
	case api.FaultColumn:
		p.Row = 0
	case api.FaultBank:
		p.Row, p.Column = 0, 0
	case api.FaultChip:
		p.Bank, p.Row, p.Column = 0, 0, 0
	case api.FaultLane:
		p.Rank, p.Bank, p.Row, p.Column = 0, 0, 0, 0
	}
	return p
}
