package bitmat_test

import (
	"math/rand"
	"memfault/api"
	"memfault/bitmat"
	"testing"
)

// large calls f for matrices of all sizes, of many ranks.
func large(f func(r *rand.Rand, m api.Matrix)) {
	r := rand.New(rand.NewSource(6))
	for range 400 {
		rows, columns := 1+r.Intn(64), 1+r.Intn(64)
		f(r, some(r, rows, columns, 2+r.Intn(20)))
		f(r, ofRank(r, rows, columns, 1+r.Intn(min(rows, columns))))
	}
	for range 20 {
		f(r, ofRank(r, 64, 64, 1+r.Intn(63)))
		f(r, some(r, 64, 64, 2))
		f(r, onto(r, 64))
	}
}

// The rank is that of the columns, and of all sums of rows; what is missing from the number of columns is the length of the kernel.
func TestLawsOfRank(t *testing.T) {
	large(func(r *rand.Rand, m api.Matrix) {
		turned, err := bitmat.Turn(m)
		rank := bitmat.Rank(m)
		if got := bitmat.Rank(must(t, "Turn", turned, err)); got != rank {
			t.Errorf("Rank of %v: %d, and %d turned", m, rank, got)
		}
		if got := bitmat.Rank(times(onto(r, len(m.Rows)), m)); got != rank {
			t.Errorf("Rank of %v: %d, and %d of sums of its rows", m, rank, got)
		}
		base, err := bitmat.Kernel(m)
		if err != api.OK || len(base) != m.Columns-rank {
			t.Errorf("Kernel of %v: %v, error %d, with rank %d", m, base, err, rank)
		}
		for _, v := range base {
			got, err := bitmat.Apply(m, v)
			wantVector(t, "Apply of the kernel", got, err, 0, api.OK)
		}
		wantBase(t, m, base)
	})
}

// A solution is the least one if and only if it has none of the highest bits of the kernel: each other one is a sum with vectors of the kernel.
func TestLawsOfSolve(t *testing.T) {
	large(func(r *rand.Rand, m api.Matrix) {
		want := image(m, r.Uint64()>>(64-m.Columns))
		least, err := bitmat.Solve(m, want)
		if err != api.OK {
			t.Fatalf("Solve with %v for %d: error %d", m, want, err)
		}
		wantVector(t, "Apply of a solution", image(m, least), api.OK, want, api.OK)
		base, _ := bitmat.Kernel(m)
		for _, v := range base {
			if least&highest(v) != 0 {
				t.Errorf("Solve with %v for %d: %d is not the least, with %d in the kernel", m, want, least, v)
			}
		}
	})
}

// There is a solution if and only if the vector as a further column leaves the rank as it is.
func TestLawsOfSingular(t *testing.T) {
	large(func(r *rand.Rand, m api.Matrix) {
		if m.Columns == api.MaxSide {
			return
		}
		v := r.Uint64() >> (64 - len(m.Rows))
		wider := fill(len(m.Rows), m.Columns+1, func(i, k int) int {
			if k == m.Columns {
				return int(v >> i % 2)
			}
			return at(m, i, k)
		})
		got, err := bitmat.Solve(m, v)
		if bitmat.Rank(wider) > bitmat.Rank(m) {
			wantVector(t, "Solve", got, err, 0, api.ErrSingular)
		} else {
			wantVector(t, "Apply of a solution", image(m, got), err, v, api.OK)
		}
	})
}

// Inverse and Solve undo Apply; a product is undone in the other order.
func TestLawsOfInverse(t *testing.T) {
	r := rand.New(rand.NewSource(7))
	for range 200 {
		n := 1 + r.Intn(64)
		a, b := onto(r, n), onto(r, n)
		first, err := bitmat.Inverse(a)
		first = must(t, "Inverse", first, err)
		second, err := bitmat.Inverse(b)
		second = must(t, "Inverse", second, err)
		v := r.Uint64() >> (64 - n)
		w, err := bitmat.Apply(a, v)
		wantVector(t, "Apply", w, err, image(a, v), api.OK)
		back, err := bitmat.Apply(first, w)
		wantVector(t, "Apply of the inverse", back, err, v, api.OK)
		back, err = bitmat.Solve(a, w)
		wantVector(t, "Solve", back, err, v, api.OK)
		product, err := bitmat.Mul(a, b)
		both, code := bitmat.Inverse(must(t, "Mul", product, err))
		wantMatrix(t, "Inverse of a product", both, code, times(second, first))
		turned, err := bitmat.Turn(a)
		ofTurned, code := bitmat.Inverse(must(t, "Turn", turned, err))
		want, _ := bitmat.Turn(first)
		wantMatrix(t, "Inverse of the turned matrix", ofTurned, code, want)
	}
}

// Turn undoes itself and turns a product over; products are associative, and unit matrices leave a matrix as it is.
func TestLawsOfProducts(t *testing.T) {
	mul := func(a, b api.Matrix) api.Matrix {
		product, err := bitmat.Mul(a, b)
		return must(t, "Mul", product, err)
	}
	turn := func(m api.Matrix) api.Matrix {
		turned, err := bitmat.Turn(m)
		return must(t, "Turn", turned, err)
	}
	r := rand.New(rand.NewSource(8))
	for range 100 {
		i, k, l, n := 1+r.Intn(64), 1+r.Intn(64), 1+r.Intn(64), 1+r.Intn(64)
		a, b, c := some(r, i, k, 2), some(r, k, l, 2), some(r, l, n, 2)
		wantMatrix(t, "turned twice", turn(turn(a)), api.OK, a)
		wantMatrix(t, "turned product", turn(mul(a, b)), api.OK, mul(turn(b), turn(a)))
		wantMatrix(t, "product of three", mul(mul(a, b), c), api.OK, mul(a, mul(b, c)))
		wantMatrix(t, "unit times matrix", mul(unit(i), a), api.OK, a)
		wantMatrix(t, "matrix times unit", mul(a, unit(k)), api.OK, a)
	}
}
