package hash_test

import (
	"math"
	"math/rand"
	"memfault/api"
	"memfault/hash"
	"slices"
	"testing"
)

// P10.1
func TestValue(t *testing.T) {
	for _, c := range []struct {
		masks         []uint64
		address, want uint64
	}{
		{nil, 0, 0},
		{nil, all, 0},
		{of(), 5, 0},
		{of(3, 2), 0, 0},
		{of(3, 2), 1, 1},
		{of(3, 2), 2, 3},
		{of(3, 2), 3, 2},
		{of(3, 2), 4, 0},
		{of(3, 2), all, 2},
		{of(0, 0), all, 0},
		{of(all), all, 0},
		{of(all), all >> 1, 1},
		{of(1 << 63), 1 << 63, 1},
		{of(0, 1<<63|1), 1 << 63, 2},
		{of(0, 1<<63|1), 1<<63 | 1, 0},
		{units(64), all, all},
		{units(64), 0x123456789abcdef0, 0x123456789abcdef0},
		{ones(64), 1 << 40, all},
		{ones(64), 3 << 40, 0},
		{ones(65), 1, all},
		{append(make([]uint64, 64), all, all), 1, 0},
		{append(units(63), 0, 1<<63), all, all >> 1},
		{append(units(64), units(64)...), 77, 77},
	} {
		if got := hash.Value(c.masks, c.address); got != c.want {
			t.Errorf("Value of %x for %v: %x, want %x", c.address, c.masks, got, c.want)
		}
	}
}

func TestValueOfMany(t *testing.T) {
	r := rand.New(rand.NewSource(1))
	for range 4000 {
		masks := make([]uint64, r.Intn(100))
		for k := range masks {
			masks[k] = r.Uint64() >> r.Intn(65)
		}
		address := r.Uint64() >> r.Intn(65)
		if got, want := hash.Value(masks, address), value(masks, address); got != want {
			t.Errorf("Value of %x for %v: %x, want %x", address, masks, got, want)
		}
	}
}

func TestCheck(t *testing.T) {
	small(func(masks []uint64) {
		if got, want := hash.Check(masks), check(masks); got != want {
			t.Errorf("Check of %v: %d, want %d", masks, got, want)
		}
	})
	r := rand.New(rand.NewSource(2))
	for range 3000 {
		masks := make([]uint64, r.Intn(8))
		for k := range masks {
			masks[k] = r.Uint64() % (1 << len(masks))
		}
		if got, want := hash.Check(masks), check(masks); got != want {
			t.Errorf("Check of %v: %d, want %d", masks, got, want)
		}
	}
	for _, c := range wrong() {
		if got := hash.Check(c.masks); got != c.err {
			t.Errorf("Check of %v: %d, want %d", c.masks, got, c.err)
		}
	}
}

func TestCheckOfAllSizes(t *testing.T) {
	r := rand.New(rand.NewSource(3))
	for n := 1; n <= 64; n++ {
		for range 5 {
			if masks := oneToOne(r, n); hash.Check(masks) != api.OK {
				t.Errorf("Check of %v: %d", masks, hash.Check(masks))
			}
			if masks := overlapping(r, n); hash.Check(masks) != api.ErrOverlap {
				t.Errorf("Check of %v: %d", masks, hash.Check(masks))
			}
		}
		for bit := n; bit < 64; bit++ {
			masks := oneToOne(r, n)
			masks[r.Intn(n)] |= 1 << bit
			if got := hash.Check(masks); got != api.ErrRange {
				t.Errorf("Check of %v: %d", masks, got)
			}
		}
	}
}

// P10.2
func TestInverse(t *testing.T) {
	for _, c := range []struct{ masks, want []uint64 }{
		{nil, nil},
		{of(), nil},
		{of(1), of(1)},
		{of(3, 2), of(3, 2)},
		{of(1, 3), of(1, 3)},
		{of(2, 4, 1), of(4, 1, 2)},
		{of(7, 6, 4), of(3, 6, 4)},
		{units(64), units(64)},
	} {
		got, err := hash.Inverse(c.masks)
		wantMasks(t, "Inverse", got, err, c.want)
	}
	small(func(masks []uint64) {
		inverse, err := hash.Inverse(masks)
		if want := check(masks); want != api.OK {
			wantError(t, "Inverse", inverse, err, want)
			return
		}
		wantBack(t, masks, must(t, "Inverse", inverse, err))
	})
	r := rand.New(rand.NewSource(4))
	for n := 1; n <= 10; n++ {
		masks := oneToOne(r, n)
		inverse, err := hash.Inverse(masks)
		wantBack(t, masks, must(t, "Inverse", inverse, err))
	}
	for _, c := range wrong() {
		got, err := hash.Inverse(c.masks)
		wantError(t, "Inverse", got, err, c.err)
	}
}

// wantBack checks that the inverse is one to one, of the same length, and leads from the value of each address to it.
func wantBack(t *testing.T, masks, inverse []uint64) {
	t.Helper()
	if len(inverse) != len(masks) || check(inverse) != api.OK {
		t.Errorf("Inverse of %v: %v", masks, inverse)
	}
	for address := range uint64(1) << len(masks) {
		if back := value(inverse, value(masks, address)); back != address {
			t.Errorf("Inverse of %v: %v leads from %d back to %d", masks, inverse, address, back)
		}
	}
}

func TestJoin(t *testing.T) {
	for _, c := range []struct{ first, second, want []uint64 }{
		{nil, nil, nil},
		{nil, of(), nil},
		{of(1), of(1), of(1)},
		{of(3, 2), of(1, 3), of(3, 1)},
		{of(1, 3), of(3, 2), of(2, 3)},
		{of(2, 4, 1), of(7, 6, 4), of(7, 5, 1)},
		{units(64), units(64), units(64)},
	} {
		got, err := hash.Join(c.first, c.second)
		wantMasks(t, "Join", got, err, c.want)
	}
	small(func(first []uint64) {
		if len(first) > 2 || check(first) != api.OK {
			return
		}
		small(func(second []uint64) {
			if len(second) == len(first) && check(second) == api.OK {
				wantJoined(t, first, second)
			}
		})
	})
	r := rand.New(rand.NewSource(5))
	for n := 1; n <= 10; n++ {
		wantJoined(t, oneToOne(r, n), oneToOne(r, n))
	}
}

// wantJoined checks the value of each address.
func wantJoined(t *testing.T, first, second []uint64) {
	t.Helper()
	joined, err := hash.Join(first, second)
	if err != api.OK || len(joined) != len(first) || check(joined) != api.OK {
		t.Errorf("Join of %v and %v: %v, error %d", first, second, joined, err)
	}
	for address := range uint64(1) << len(first) {
		if got, want := value(joined, address), value(second, value(first, address)); got != want {
			t.Errorf("Join of %v and %v: %d leads to %d, want %d", first, second, address, got, want)
		}
	}
}

func TestJoinErrors(t *testing.T) {
	for _, c := range wrong() {
		for _, other := range [][]uint64{nil, of(1), of(3, 2), units(64)} {
			got, err := hash.Join(c.masks, other)
			wantError(t, "Join of a wrong hash", got, err, c.err)
			got, err = hash.Join(other, c.masks)
			wantError(t, "Join with a wrong hash", got, err, c.err)
		}
		for _, d := range wrong() {
			got, err := hash.Join(c.masks, d.masks)
			wantError(t, "Join of two wrong hashes", got, err, c.err)
		}
	}
	for i := range 65 {
		for k := range 65 {
			if i != k {
				got, err := hash.Join(units(i), units(k))
				wantError(t, "Join of two lengths", got, err, api.ErrSize)
			}
		}
	}
}

// P10.3
func TestSpread(t *testing.T) {
	for _, c := range []struct {
		masks               []uint64
		from, stride, count int
		want                []int
	}{
		{nil, 0, 0, 0, []int{0}},
		{nil, 9, 9, 7, []int{7}},
		{of(1), 0, 1, 0, []int{0, 0}},
		{of(1), 0, 1, 5, []int{3, 2}},
		{of(1), 1, 1, 5, []int{2, 3}},
		{of(1), 1, 2, 5, []int{0, 5}},
		{of(1), 3, 0, 4096, []int{0, 4096}},
		{of(0), 3, 1, 4096, []int{4096, 0}},
		{of(3, 2), 0, 1, 3, []int{1, 1, 0, 1}},
		{of(1, 1), 0, 1, 5, []int{3, 0, 0, 2}},
		{of(1 << 20), 1 << 20, 0, 2, []int{0, 2}},
		{of(1 << 20), 0, 1 << 20, 3, []int{2, 1}},
		{of(1 << 31), 0, 1 << 20, 4096, []int{2048, 2048}},
		{of(1 << 32), 1 << 20, 1 << 20, 4096, []int{4095, 1}},
		{of(1 << 32), 1<<20 - 1, 1 << 20, 4096, []int{4096, 0}},
		{of(1<<63 | 1), 0, 1, 3, []int{2, 1}},
	} {
		got, err := hash.Spread(c.masks, c.from, c.stride, c.count)
		if err != api.OK || !slices.Equal(got, c.want) {
			t.Errorf("Spread of %v, %d addresses from %d by %d: %v, error %d; want %v", c.masks, c.count, c.from, c.stride, got, err, c.want)
		}
	}
}

func TestSpreadOfMany(t *testing.T) {
	r := rand.New(rand.NewSource(6))
	for range 400 {
		masks := make([]uint64, r.Intn(13))
		for k := range masks {
			masks[k] = r.Uint64() >> (r.Intn(20) + 30)
		}
		from, stride, count := (1<<20)>>r.Intn(21)-r.Intn(2), (1<<20)>>r.Intn(21)-r.Intn(2), r.Intn(4097)>>r.Intn(10)
		want := make([]int, 1<<len(masks))
		for k := range count {
			want[value(masks, uint64(from+k*stride))]++
		}
		got, err := hash.Spread(masks, from, stride, count)
		if err != api.OK || !slices.Equal(got, want) {
			t.Errorf("Spread of %v, %d addresses from %d by %d: %v, error %d; want %v", masks, count, from, stride, got, err, want)
		}
	}
}

func TestSpreadErrors(t *testing.T) {
	low := []int{math.MinInt, -1 << 32, -1}
	beyond := append([]int{1<<20 + 1, 1 << 32, math.MaxInt}, low...)
	for _, wrong := range beyond {
		got, err := hash.Spread(of(3, 2), wrong, 1, 1)
		wantError(t, "Spread from beyond", got, err, api.ErrRange)
		got, err = hash.Spread(of(3, 2), 1, wrong, 0)
		wantError(t, "Spread by a stride beyond", got, err, api.ErrRange)
	}
	for _, wrong := range append([]int{4097, 1 << 20, 1 << 32, math.MaxInt}, low...) {
		got, err := hash.Spread(of(3, 2), 0, 0, wrong)
		wantError(t, "Spread of a count beyond", got, err, api.ErrRange)
	}
	for _, n := range []int{13, 14, 64, 65, 1000} {
		got, err := hash.Spread(units(n), 0, 1, 1)
		wantError(t, "Spread of too many masks", got, err, api.ErrSize)
		got, err = hash.Spread(make([]uint64, n), -1, -1, -1)
		wantError(t, "Spread of too many masks from beyond", got, err, api.ErrSize)
	}
	// The hash need not be one to one, nor need its masks have bits of its values only.
	for _, masks := range [][]uint64{ones(12), make([]uint64, 12), units(12)} {
		if got, err := hash.Spread(masks, 1<<20, 1<<20, 4096); err != api.OK || len(got) != 4096 {
			t.Errorf("Spread of %v: %d numbers, error %d", masks, len(got), err)
		}
	}
}

// R2: arguments stay as they are, and results have memory of their own.
func TestAlone(t *testing.T) {
	r := rand.New(rand.NewSource(7))
	for _, n := range []int{0, 1, 3, 12, 64} {
		for _, masks := range [][]uint64{units(n), oneToOne(r, n), make([]uint64, n), ones(n)} {
			other := oneToOne(r, n)
			wantAlone(t, "Value", masks, func(m []uint64) []uint64 { return of(hash.Value(m, all/3)) })
			wantAlone(t, "Check", masks, func(m []uint64) []uint64 { return of(uint64(hash.Check(m))) })
			wantAlone(t, "Inverse", masks, func(m []uint64) []uint64 { i, _ := hash.Inverse(m); return i })
			wantAlone(t, "Join", masks, func(m []uint64) []uint64 { j, _ := hash.Join(m, other); return j })
			wantAlone(t, "Join", masks, func(m []uint64) []uint64 { j, _ := hash.Join(other, m); return j })
			wantAlone(t, "Join", masks, func(m []uint64) []uint64 { j, _ := hash.Join(m, m); return j })
			wantAlone(t, "Spread", masks, func(m []uint64) []int { s, _ := hash.Spread(m, 5, 3, 100); return s })
		}
	}
}

// wantAlone checks that a call changes neither its argument nor what lies behind it, and that its result has memory of its own.
func wantAlone[E uint64 | int](t *testing.T, what string, masks []uint64, call func(m []uint64) []E) {
	t.Helper()
	behind := append(slices.Clone(masks), 7, 8, 9)
	given := slices.Clone(behind)[:len(masks)]
	result := call(given)
	again := slices.Clone(call(given))
	if !slices.Equal(result, again) {
		t.Errorf("%s: %v, and then %v", what, result, again)
	}
	for k := range result[:cap(result)] {
		result[:cap(result)][k] ^= 85
	}
	if third := call(given); !slices.Equal(third, again) {
		t.Errorf("%s: %v, and then %v", what, again, third)
	}
	if !slices.Equal(given[:len(behind)], behind) {
		t.Errorf("%s has changed its argument %v", what, masks)
	}
}
