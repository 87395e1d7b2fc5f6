package bitmat_test

import (
	"math"
	"math/rand"
	"memfault/api"
	"memfault/bitmat"
	"slices"
	"testing"
)

const all = math.MaxUint64

// of makes a matrix of its rows.
func of(columns int, rows ...uint64) api.Matrix { return api.Matrix{Columns: columns, Rows: rows} }

// rowsOf are n rows that are all the same.
func rowsOf(n int, row uint64) []uint64 { return slices.Repeat([]uint64{row}, n) }

// at is the element in a row and a column.
func at(m api.Matrix, row, column int) int { return int(m.Rows[row] >> column % 2) }

// fill makes a matrix of its elements.
func fill(rows, columns int, element func(row, column int) int) api.Matrix {
	m := api.Matrix{Columns: columns, Rows: make([]uint64, rows)}
	for i := range rows {
		for k := range columns {
			if element(i, k)%2 == 1 {
				m.Rows[i] += 1 << k
			}
		}
	}
	return m
}

// image is what Apply should give, element by element.
func image(m api.Matrix, v uint64) uint64 {
	result := uint64(0)
	for i := range m.Rows {
		common := 0
		for k := range m.Columns {
			common += at(m, i, k) * int(v>>k%2)
		}
		if common%2 == 1 {
			result += 1 << i
		}
	}
	return result
}

// times is the product, element by element.
func times(a, b api.Matrix) api.Matrix {
	return fill(len(a.Rows), b.Columns, func(i, k int) int {
		sum := 0
		for j := range b.Rows {
			sum += at(a, i, j) * at(b, j, k)
		}
		return sum
	})
}

// unit has elements 1 where row and column are the same.
func unit(n int) api.Matrix {
	return fill(n, n, func(i, k int) int {
		if i == k {
			return 1
		}
		return 0
	})
}

// some makes a matrix of random elements, of which about one of every sparse ones is 1.
func some(r *rand.Rand, rows, columns, sparse int) api.Matrix {
	return fill(rows, columns, func(int, int) int {
		if r.Intn(sparse) == 0 {
			return 1
		}
		return 0
	})
}

// ofRank makes a matrix whose rows are random sums of so many random rows: its rank is not greater.
func ofRank(r *rand.Rand, rows, columns, rank int) api.Matrix {
	return times(some(r, rows, rank, 2), some(r, rank, columns, 2))
}

// onto makes a square matrix that has an inverse: the product of one with nothing above the diagonal and one with nothing below it, its rows in another order.
func onto(r *rand.Rand, n int) api.Matrix {
	part := func(below bool) api.Matrix {
		return fill(n, n, func(i, k int) int {
			switch {
			case i == k:
				return 1
			case (i > k) == below:
				return r.Intn(2)
			}
			return 0
		})
	}
	m := times(part(true), part(false))
	r.Shuffle(n, func(i, k int) { m.Rows[i], m.Rows[k] = m.Rows[k], m.Rows[i] })
	return m
}

// small calls f for each matrix of up to three rows and columns.
func small(f func(m api.Matrix)) {
	for rows := 1; rows <= 3; rows++ {
		for columns := 1; columns <= 3; columns++ {
			for elements := range 1 << (rows * columns) {
				f(fill(rows, columns, func(i, k int) int { return elements >> (i*columns + k) }))
			}
		}
	}
}

// smallAndRandom are further matrices for which all vectors can be looked through: up to eight rows and columns.
func smallAndRandom(f func(m api.Matrix)) {
	small(f)
	r := rand.New(rand.NewSource(1))
	for range 1500 {
		rows, columns := 1+r.Intn(8), 1+r.Intn(8)
		f(some(r, rows, columns, 2+r.Intn(3)))
		f(ofRank(r, rows, columns, 1+r.Intn(5)))
	}
}

// invalid are matrices that are not valid, each for one reason, and for several.
func invalid() []api.Matrix {
	return []api.Matrix{
		{}, of(0, 0), of(-1, 0), of(math.MinInt, 0), of(65, 0), of(65, rowsOf(65, 0)...), of(math.MaxInt, 1), of(0, 1),
		of(1), of(64), {Columns: 3, Rows: []uint64{}}, of(1, rowsOf(65, 0)...), of(64, rowsOf(65, 1)...), of(2, rowsOf(1000, 0)...),
		of(1, 2), of(2, 4), of(2, 1, 2, 3, 4), of(2, 4, 1), of(3, 1<<63), of(63, 1<<63), of(63, all), of(1, 3), of(32, 1<<32, 1),
	}
}

func wantMatrix(t *testing.T, what string, got api.Matrix, err api.Errno, want api.Matrix) {
	t.Helper()
	if err != api.OK || got.Columns != want.Columns || !slices.Equal(got.Rows, want.Rows) {
		t.Errorf("%s: %v, error %d; want %v", what, got, err, want)
	}
}

// wantError checks an error, and that the result beside it is the zero value.
func wantError(t *testing.T, what string, got api.Matrix, err, want api.Errno) {
	t.Helper()
	if err != want || got.Columns != 0 || len(got.Rows) != 0 {
		t.Errorf("%s: %v, error %d; want error %d", what, got, err, want)
	}
}

func wantVector(t *testing.T, what string, got uint64, err api.Errno, want uint64, code api.Errno) {
	t.Helper()
	if err != code || got != want {
		t.Errorf("%s: %d, error %d; want %d, error %d", what, got, err, want, code)
	}
}

// wantAlone checks that a call changes neither its arguments nor what lies behind them, and that its result has memory of its own.
func wantAlone(t *testing.T, what string, arguments []api.Matrix, call func(m []api.Matrix) []uint64) {
	t.Helper()
	var given []api.Matrix
	for _, m := range arguments {
		rows := append(append(make([]uint64, 0, len(m.Rows)+3), m.Rows...), 7, 8, 9)
		given = append(given, api.Matrix{Columns: m.Columns, Rows: rows[:len(m.Rows)]})
	}
	result := call(given)
	again := slices.Clone(call(given))
	if !slices.Equal(result, again) {
		t.Errorf("%s: %v, and then %v", what, result, again)
	}
	for k := range result[:cap(result)] {
		result[:cap(result)][k] ^= all
	}
	if third := call(given); !slices.Equal(third, again) {
		t.Errorf("%s: %v, and then %v", what, again, third)
	}
	for k, m := range arguments {
		n := len(m.Rows)
		if given[k].Columns != m.Columns || !slices.Equal(given[k].Rows, m.Rows) || !slices.Equal(given[k].Rows[n:n+3], []uint64{7, 8, 9}) {
			t.Errorf("%s: argument %d was changed", what, k)
		}
	}
}

// must takes the result of a call that should not fail.
func must(t *testing.T, what string, m api.Matrix, err api.Errno) api.Matrix {
	t.Helper()
	if err != api.OK || !bitmat.Valid(m) {
		t.Fatalf("%s: %v, error %d", what, m, err)
	}
	return m
}
