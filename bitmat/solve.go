package bitmat

import (
	"memfault/api"
	"slices"
)

// Rank returns the greatest number of rows no sum of some of which is zero.
func Rank(m api.Matrix) int {
	if !Valid(m) {
		return 0
	}
	return len(solved(m, make([]uint64, len(m.Rows))).pivots)
}

// Inverse returns the matrix whose product with m is the unit matrix.
func Inverse(m api.Matrix) (api.Matrix, api.Errno) {
	if !Valid(m) {
		return api.Matrix{}, api.ErrInvalid
	}
	if len(m.Rows) != m.Columns {
		return api.Matrix{}, api.ErrSize
	}
	s := solved(m, unitRows(m.Columns))
	if len(s.pivots) < s.Columns {
		return api.Matrix{}, api.ErrSingular
	}
	// Each column is a pivot, so the rows have become those of the unit matrix, and the right sides say of which sums.
	return api.Matrix{Columns: s.Columns, Rows: s.right}, api.OK
}

// Solve returns the least vector for which Apply gives v.
func Solve(m api.Matrix, v uint64) (uint64, api.Errno) {
	if !Valid(m) {
		return 0, api.ErrInvalid
	}
	if !fits(v, len(m.Rows)) {
		return 0, api.ErrSize
	}
	right := make([]uint64, len(m.Rows))
	for k := range right {
		right[k] = bit(v, k)
	}
	s := solved(m, right)
	isOne := func(element uint64) bool { return element == 1 }
	if slices.ContainsFunc(s.right[len(s.pivots):], isOne) {
		return 0, api.ErrSingular
	}
	// All elements that can be chosen are 0. That is the least solution: to turn some of them over turns over no higher one.
	least := uint64(0)
	for k, column := range s.pivots {
		least |= s.right[k] << column
	}
	return least, api.OK
}

// Kernel returns a base of the vectors for which Apply gives 0.
func Kernel(m api.Matrix) ([]uint64, api.Errno) {
	if !Valid(m) {
		return nil, api.ErrInvalid
	}
	s := solved(m, make([]uint64, len(m.Rows)))
	var base []uint64
	for column := s.Columns - 1; column >= 0; column-- {
		if !slices.Contains(s.pivots, column) {
			base = append(base, s.balance(column))
		}
	}
	return base, api.OK
}

// system is a matrix that is being solved, with a right side for each row: what is done with the rows is done with the right sides too.
type system struct {
	api.Matrix
	right  []uint64
	pivots []int // for each row that is done, the column of its lowest bit; no other row has a bit there
}

// solved returns the system of a valid matrix and of right sides, which it takes over. In it, all the rows that have no pivot are 0.
func solved(m api.Matrix, right []uint64) *system {
	s := &system{Matrix: api.Matrix{Columns: m.Columns, Rows: slices.Clone(m.Rows)}, right: right}
	// Each pivot is the lowest bit of its row because the lowest columns come first: Solve and Kernel rely on that.
	for column := range s.Columns {
		s.eliminate(column)
	}
	return s
}

// eliminate makes a pivot of the column, if one of the rows that are not done has a bit there.
func (s *system) eliminate(column int) {
	done := len(s.pivots)
	hasBit := func(row uint64) bool { return bit(row, column) == 1 }
	found := slices.IndexFunc(s.Rows[done:], hasBit)
	if found < 0 {
		return
	}
	s.exchange(done, done+found)
	s.addWhere(done, hasBit)
	s.pivots = append(s.pivots, column)
}

// exchange lets two rows change places.
func (s *system) exchange(i, k int) {
	s.Rows[i], s.Rows[k] = s.Rows[k], s.Rows[i]
	s.right[i], s.right[k] = s.right[k], s.right[i]
}

// addWhere adds row i to all the other rows that are as wanted.
func (s *system) addWhere(i int, wanted func(row uint64) bool) {
	for k, row := range s.Rows {
		if k != i && wanted(row) {
			s.Rows[k] ^= s.Rows[i]
			s.right[k] ^= s.right[i]
		}
	}
}

// balance returns the vector for which Apply gives 0 that has a bit in the given column, which is no pivot, and all its other bits in columns that are pivots.
func (s *system) balance(column int) uint64 {
	vector := uint64(1) << column
	for k, pivot := range s.pivots {
		vector |= bit(s.Rows[k], column) << pivot
	}
	return vector
}
