package bitmat_test

import (
	"math/rand"
	"memfault/api"
	"memfault/bitmat"
	"slices"
	"testing"
)

// preimages are, for each vector that Apply gives, the vectors for which it does, ascending.
func preimages(m api.Matrix) map[uint64][]uint64 {
	found := map[uint64][]uint64{}
	for v := range uint64(1) << m.Columns {
		w := image(m, v)
		found[w] = append(found[w], v)
	}
	return found
}

// independent reports whether no sum of some of the rows is zero.
func independent(rows []uint64) bool {
	sums := []uint64{0}
	for _, row := range rows {
		if slices.Contains(sums, row) {
			return false
		}
		for _, sum := range slices.Clone(sums) {
			sums = append(sums, sum^row)
		}
	}
	return true
}

// greatestChoice looks for the rank among all choices of rows.
func greatestChoice(m api.Matrix) int {
	best := 0
	for choice := range 1 << len(m.Rows) {
		var rows []uint64
		for k, row := range m.Rows {
			if choice>>k%2 == 1 {
				rows = append(rows, row)
			}
		}
		if len(rows) > best && independent(rows) {
			best = len(rows)
		}
	}
	return best
}

// highest is the highest bit of a vector that is not 0.
func highest(v uint64) uint64 {
	top := uint64(1)
	for v >>= 1; v > 0; v >>= 1 {
		top <<= 1
	}
	return top
}

// P5.3
func TestRank(t *testing.T) {
	for _, c := range []struct {
		m    api.Matrix
		want int
	}{
		{of(2, 1, 2, 3), 2},
		{of(1, 0), 0},
		{of(64, rowsOf(64, 0)...), 0},
		{of(64, rowsOf(64, all)...), 1},
		{of(1, rowsOf(64, 1)...), 1},
		{of(64, all), 1},
		{of(3, 7), 1},
		{of(3, 0, 7, 0, 7, 1), 2},
		{of(4, 3, 6, 12, 9), 3},
		{of(3, 4, 2, 1), 3},
		{unit(64), 64},
	} {
		if got := bitmat.Rank(c.m); got != c.want {
			t.Errorf("Rank of %v: %d, want %d", c.m, got, c.want)
		}
	}
	smallAndRandom(func(m api.Matrix) {
		if got, want := bitmat.Rank(m), greatestChoice(m); got != want {
			t.Errorf("Rank of %v: %d, want %d", m, got, want)
		}
	})
	for _, m := range invalid() {
		if got := bitmat.Rank(m); got != 0 {
			t.Errorf("Rank of %v: %d", m, got)
		}
	}
}

func TestInverse(t *testing.T) {
	for _, c := range []struct{ m, want api.Matrix }{
		{of(1, 1), of(1, 1)},
		{of(2, 3, 2), of(2, 3, 2)},
		{of(2, 2, 1), of(2, 2, 1)},
		{of(3, 2, 4, 1), of(3, 4, 1, 2)},
		{of(3, 7, 6, 4), of(3, 3, 6, 4)},
		{unit(64), unit(64)},
	} {
		got, err := bitmat.Inverse(c.m)
		wantMatrix(t, "Inverse", got, err, c.want)
	}
	r := rand.New(rand.NewSource(5))
	for n := 1; n <= 64; n++ {
		for range 10 {
			m := onto(r, n)
			got, err := bitmat.Inverse(m)
			got = must(t, "Inverse", got, err)
			wantMatrix(t, "inverse times matrix", times(got, m), api.OK, unit(n))
			wantMatrix(t, "matrix times inverse", times(m, got), api.OK, unit(n))
			back, err := bitmat.Inverse(got)
			wantMatrix(t, "Inverse of Inverse", back, err, m)
		}
	}
}

func TestInverseErrors(t *testing.T) {
	for _, m := range invalid() {
		got, err := bitmat.Inverse(m)
		wantError(t, "Inverse of an invalid matrix", got, err, api.ErrInvalid)
	}
	// Those without as many rows as columns have no inverse either: the size is named first.
	for _, m := range []api.Matrix{of(2, 1), of(2, 0), of(1, 1, 1), of(1, 0, 0), of(64, 1), of(64, rowsOf(63, 0)...), of(63, rowsOf(64, 0)...), of(2, 1, 2, 3)} {
		got, err := bitmat.Inverse(m)
		wantError(t, "Inverse of another size", got, err, api.ErrSize)
	}
	for _, m := range []api.Matrix{of(1, 0), of(2, 1, 1), of(2, 0, 3), of(2, 2, 0), of(3, 1, 2, 3), of(3, 3, 5, 6), of(64, rowsOf(64, all)...), of(64, append(unit(64).Rows[:63], all>>1)...)} {
		got, err := bitmat.Inverse(m)
		wantError(t, "Inverse of a singular matrix", got, err, api.ErrSingular)
	}
}

// Each square matrix whose vectors all have values of their own has an inverse, and no other one.
func TestInverseOfSmall(t *testing.T) {
	smallAndRandom(func(m api.Matrix) {
		if len(m.Rows) != m.Columns {
			return
		}
		got, err := bitmat.Inverse(m)
		if len(preimages(m)) < 1<<m.Columns {
			wantError(t, "Inverse", got, err, api.ErrSingular)
			return
		}
		for w, list := range preimages(m) {
			if v := image(must(t, "Inverse", got, err), w); v != list[0] {
				t.Errorf("Inverse of %v: %d for %d, want %d", m, v, w, list[0])
			}
		}
	})
}

// P5.4
func TestSolve(t *testing.T) {
	for _, c := range []struct {
		m       api.Matrix
		v, want uint64
		code    api.Errno
	}{
		{of(3, 7), 1, 1, api.OK},
		{of(3, 7), 0, 0, api.OK},
		{of(3, 6), 1, 2, api.OK},
		{of(3, 6, 5), 3, 3, api.OK},
		{of(3, 6, 5), 1, 2, api.OK},
		{of(3, 6, 5), 2, 1, api.OK},
		{of(2, 3, 3), 3, 1, api.OK},
		{of(2, 3, 3), 1, 0, api.ErrSingular},
		{of(2, 3, 3), 2, 0, api.ErrSingular},
		{of(2, 3, 0, 3), 5, 1, api.OK},
		{of(2, 0), 1, 0, api.ErrSingular},
		{of(2, 0), 0, 0, api.OK},
		{of(64, 1<<63), 1, 1 << 63, api.OK},
		{of(64, all), 1, 1, api.OK},
		{unit(64), all, all, api.OK},
		{unit(64), 1 << 63, 1 << 63, api.OK},
		{of(1, rowsOf(64, 1)...), all, 1, api.OK},
		{of(1, rowsOf(64, 1)...), all - 1, 0, api.ErrSingular},
	} {
		got, err := bitmat.Solve(c.m, c.v)
		wantVector(t, "Solve", got, err, c.want, c.code)
	}
	smallAndRandom(func(m api.Matrix) {
		found := preimages(m)
		for w := range uint64(1) << len(m.Rows) {
			want, code := uint64(0), api.ErrSingular
			if list := found[w]; len(list) > 0 {
				want, code = list[0], api.OK
			}
			got, err := bitmat.Solve(m, w)
			wantVector(t, "Solve", got, err, want, code)
		}
	})
}

func TestSolveErrors(t *testing.T) {
	for _, m := range invalid() {
		for _, v := range []uint64{0, 1, 1 << 63, all} {
			got, err := bitmat.Solve(m, v)
			wantVector(t, "Solve with an invalid matrix", got, err, 0, api.ErrInvalid)
		}
	}
	// What has too many elements has no solution either: the size is named first.
	for rows := 1; rows <= 64; rows++ {
		for k := range 64 {
			code := api.ErrSingular
			if k >= rows {
				code = api.ErrSize
			}
			got, err := bitmat.Solve(of(64, rowsOf(rows, 0)...), 1<<k)
			wantVector(t, "Solve", got, err, 0, code)
		}
	}
}

func TestKernel(t *testing.T) {
	for _, c := range []struct {
		m    api.Matrix
		want []uint64
	}{
		{of(3, 7), []uint64{5, 3}},
		{of(4, 1, 8), []uint64{4, 2}},
		{of(2, 1, 2), nil},
		{of(1, 1), nil},
		{of(1, 0), []uint64{1}},
		{of(3, 0), []uint64{4, 2, 1}},
		{of(4, 3, 12), []uint64{12, 3}},
		{of(3, 6, 3), []uint64{7}},
		{of(3, 4), []uint64{2, 1}},
		{of(64, 1<<63|1), append([]uint64{1<<63 | 1}, between(62, 1)...)},
		{of(64, rowsOf(64, 0)...), between(63, 0)},
		{unit(64), nil},
	} {
		got, err := bitmat.Kernel(c.m)
		if err != api.OK || !slices.Equal(got, c.want) {
			t.Errorf("Kernel of %v: %v, error %d; want %v", c.m, got, err, c.want)
		}
	}
	for _, m := range invalid() {
		if got, err := bitmat.Kernel(m); err != api.ErrInvalid || len(got) != 0 {
			t.Errorf("Kernel of %v: %v, error %d", m, got, err)
		}
	}
}

// between are the vectors of one bit, from bit high down to bit low.
func between(high, low int) []uint64 {
	var list []uint64
	for k := high; k >= low; k-- {
		list = append(list, 1<<k)
	}
	return list
}

// wantBase checks the form of a base.
func wantBase(t *testing.T, m api.Matrix, base []uint64) {
	t.Helper()
	for i, v := range base {
		if v == 0 || i > 0 && base[i-1] <= v {
			t.Errorf("Kernel of %v: %v is not in descending order", m, base)
			return
		}
		for k, other := range base {
			if k != i && other&highest(v) != 0 {
				t.Errorf("Kernel of %v: the highest bit of %d occurs in %d", m, v, other)
			}
		}
	}
}

// The sums of the base are all the vectors for which Apply gives 0, each of them once.
func TestKernelOfSmall(t *testing.T) {
	smallAndRandom(func(m api.Matrix) {
		base, err := bitmat.Kernel(m)
		sums := []uint64{0}
		for _, v := range base {
			for _, sum := range slices.Clone(sums) {
				sums = append(sums, sum^v)
			}
		}
		slices.Sort(sums)
		if want := preimages(m)[0]; err != api.OK || !slices.Equal(sums, want) {
			t.Errorf("Kernel of %v: %v, error %d; its sums should be %v", m, base, err, want)
		}
		wantBase(t, m, base)
	})
}
