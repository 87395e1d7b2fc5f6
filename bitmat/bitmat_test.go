package bitmat_test

import (
	"math"
	"math/rand"
	"memfault/api"
	"memfault/bitmat"
	"testing"
)

// P5.1
func TestValid(t *testing.T) {
	for _, m := range []api.Matrix{of(1, 0), of(1, 1), of(64, 0), of(64, all), of(1, rowsOf(64, 1)...), of(64, rowsOf(64, all)...), of(63, all>>1), of(2, 3, 0, 3), of(32, 1<<31, 1<<32-1)} {
		if !bitmat.Valid(m) {
			t.Errorf("%v is not valid", m)
		}
	}
	for _, m := range invalid() {
		if bitmat.Valid(m) {
			t.Errorf("%v is valid", m)
		}
	}
}

// A bit is in its row up to the last column, and not from there on.
func TestValidBits(t *testing.T) {
	for columns := 1; columns <= 64; columns++ {
		for k := range 64 {
			if got := bitmat.Valid(of(columns, 0, 1<<k, 1)); got != (k < columns) {
				t.Errorf("%d columns with bit %d: %t", columns, k, got)
			}
		}
	}
}

func TestUnit(t *testing.T) {
	for n := 1; n <= 64; n++ {
		got, err := bitmat.Unit(n)
		wantMatrix(t, "Unit", got, err, unit(n))
	}
	for _, n := range []int{0, -1, 65, 128, math.MinInt, math.MaxInt} {
		got, err := bitmat.Unit(n)
		wantError(t, "Unit", got, err, api.ErrRange)
	}
}

// P5.2
func TestApply(t *testing.T) {
	for _, c := range []struct {
		m       api.Matrix
		v, want uint64
	}{
		{of(2, 3, 2), 0, 0},
		{of(2, 3, 2), 1, 1},
		{of(2, 3, 2), 2, 3},
		{of(2, 3, 2), 3, 2},
		{of(1, 1, 0, 1), 1, 5},
		{of(3, 7), 7, 1},
		{of(3, 7), 5, 0},
		{of(64, all), all, 0},
		{of(64, all), all >> 1, 1},
		{of(64, 1<<63, 1, all), 1<<63 | 1, 3},
		{of(1, rowsOf(64, 1)...), 1, all},
	} {
		got, err := bitmat.Apply(c.m, c.v)
		wantVector(t, "Apply", got, err, c.want, api.OK)
	}
	r := rand.New(rand.NewSource(2))
	for range 2000 {
		columns := 1 + r.Intn(64)
		m, v := some(r, 1+r.Intn(64), columns, 2), r.Uint64()>>(64-columns)
		got, err := bitmat.Apply(m, v)
		wantVector(t, "Apply", got, err, image(m, v), api.OK)
	}
}

func TestApplyErrors(t *testing.T) {
	for _, m := range invalid() {
		for _, v := range []uint64{0, 1, 1 << 63, all} {
			got, err := bitmat.Apply(m, v)
			wantVector(t, "Apply of an invalid matrix", got, err, 0, api.ErrInvalid)
		}
	}
	for columns := 1; columns <= 64; columns++ {
		for k := range 64 {
			want, code := uint64(2), api.OK
			if k >= columns {
				want, code = 0, api.ErrSize
			}
			got, err := bitmat.Apply(of(columns, 0, all>>(64-columns)), 1<<k)
			wantVector(t, "Apply", got, err, want, code)
		}
	}
}

func TestMul(t *testing.T) {
	for _, c := range []struct{ a, b, want api.Matrix }{
		{of(2, 3, 2), of(2, 3, 2), of(2, 1, 2)},
		{of(2, 3), of(3, 5, 6), of(3, 3)},
		{of(1, 1, 0, 1), of(64, all), of(64, all, 0, all)},
		{of(64, all), of(1, rowsOf(64, 1)...), of(1, 0)},
		{of(64, all>>1), of(1, rowsOf(64, 1)...), of(1, 1)},
		{of(2, 2, 1), of(3, 5, 6), of(3, 6, 5)},
	} {
		got, err := bitmat.Mul(c.a, c.b)
		wantMatrix(t, "Mul", got, err, c.want)
	}
	r := rand.New(rand.NewSource(3))
	for range 300 {
		side := func() int { return 1 + r.Intn(64) }
		n := side()
		a, b := some(r, side(), n, 2), some(r, n, side(), 2)
		got, err := bitmat.Mul(a, b)
		wantMatrix(t, "Mul", got, err, times(a, b))
		v := r.Uint64() >> (64 - b.Columns)
		both, err := bitmat.Apply(must(t, "Mul", got, err), v)
		wantVector(t, "Apply of a product", both, err, image(a, image(b, v)), api.OK)
	}
}

func TestMulErrors(t *testing.T) {
	for _, m := range invalid() {
		for _, other := range []api.Matrix{of(1, 1), of(2, 1, 2), of(64, rowsOf(64, 1)...), of(3, 7), m} {
			got, err := bitmat.Mul(m, other)
			wantError(t, "Mul of an invalid matrix", got, err, api.ErrInvalid)
			got, err = bitmat.Mul(other, m)
			wantError(t, "Mul by an invalid matrix", got, err, api.ErrInvalid)
		}
	}
	for _, c := range []struct{ a, b api.Matrix }{
		{of(2, 3, 2), of(2, 3)},
		{of(2, 3, 2), of(2, 3, 2, 1)},
		{of(3, 5), of(2, 3, 2)},
		{of(1, 1, 1), of(1, 1, 1)},
		{of(64, all), of(64, all)},
		{of(1, 1), of(64, rowsOf(64, 1)...)},
	} {
		got, err := bitmat.Mul(c.a, c.b)
		wantError(t, "Mul", got, err, api.ErrSize)
	}
}

func TestTurn(t *testing.T) {
	for _, c := range []struct{ m, want api.Matrix }{
		{of(3, 1, 6), of(2, 1, 2, 2)},
		{of(1, 1), of(1, 1)},
		{of(1, 0, 1, 1), of(3, 6)},
		{of(64, 1<<63), of(1, append(rowsOf(63, 0), 1)...)},
		{of(1, rowsOf(64, 1)...), of(64, all)},
	} {
		got, err := bitmat.Turn(c.m)
		wantMatrix(t, "Turn", got, err, c.want)
	}
	r := rand.New(rand.NewSource(4))
	for range 300 {
		m := some(r, 1+r.Intn(64), 1+r.Intn(64), 2)
		got, err := bitmat.Turn(m)
		wantMatrix(t, "Turn", got, err, fill(m.Columns, len(m.Rows), func(i, k int) int { return at(m, k, i) }))
	}
	for _, m := range invalid() {
		got, err := bitmat.Turn(m)
		wantError(t, "Turn", got, err, api.ErrInvalid)
	}
}

// R2 and R9: arguments stay as they are, and results have memory of their own.
func TestAlone(t *testing.T) {
	rows := func(m api.Matrix, _ api.Errno) []uint64 { return m.Rows }
	for _, n := range []int{1, 5, 64} {
		m := onto(rand.New(rand.NewSource(int64(n))), n)
		for _, other := range []api.Matrix{m, unit(n), of(n, rowsOf(n, 1)...)} {
			pair := []api.Matrix{m, other}
			wantAlone(t, "Mul", pair, func(a []api.Matrix) []uint64 { return rows(bitmat.Mul(a[0], a[1])) })
			wantAlone(t, "Mul", pair, func(a []api.Matrix) []uint64 { return rows(bitmat.Mul(a[1], a[0])) })
			one := []api.Matrix{other}
			wantAlone(t, "Turn", one, func(a []api.Matrix) []uint64 { return rows(bitmat.Turn(a[0])) })
			wantAlone(t, "Inverse", one, func(a []api.Matrix) []uint64 { return rows(bitmat.Inverse(a[0])) })
			wantAlone(t, "Kernel", one, func(a []api.Matrix) []uint64 { base, _ := bitmat.Kernel(a[0]); return base })
			wantAlone(t, "Rank", one, func(a []api.Matrix) []uint64 { return []uint64{uint64(bitmat.Rank(a[0]))} })
			wantAlone(t, "Solve", one, func(a []api.Matrix) []uint64 { v, _ := bitmat.Solve(a[0], 1); return []uint64{v} })
			wantAlone(t, "Apply", one, func(a []api.Matrix) []uint64 { v, _ := bitmat.Apply(a[0], 1); return []uint64{v} })
		}
		wantAlone(t, "Unit", nil, func([]api.Matrix) []uint64 { return rows(bitmat.Unit(n)) })
	}
}
