package hash_test

import (
	"math"
	"math/rand"
	"memfault/api"
	"slices"
	"testing"
)

const all = math.MaxUint64

func of(masks ...uint64) []uint64 { return masks }

// ones are n masks of all bits.
func ones(n int) []uint64 { return slices.Repeat(of(all), n) }

// units are the masks of the hash for which each address is its own value.
func units(n int) []uint64 {
	masks := make([]uint64, n)
	for k := range masks {
		masks[k] = 1 << k
	}
	return masks
}

// value adds up common bits one by one.
func value(masks []uint64, address uint64) uint64 {
	result := uint64(0)
	for k := range min(len(masks), 64) {
		common := uint64(0)
		for bit := range 64 {
			common += (masks[k] >> bit % 2) * (address >> bit % 2)
		}
		result += common % 2 << k
	}
	return result
}

// check looks at the values of all addresses; for up to some 12 masks.
func check(masks []uint64) api.Errno {
	size := uint64(1) << len(masks)
	for _, mask := range masks {
		if mask >= size {
			return api.ErrRange
		}
	}
	seen := map[uint64]bool{}
	for address := range size {
		seen[value(masks, address)] = true
	}
	if len(seen) < int(size) {
		return api.ErrOverlap
	}
	return api.OK
}

// oneToOne makes a hash of n masks in steps of which each can be undone.
func oneToOne(r *rand.Rand, n int) []uint64 {
	masks := units(n)
	r.Shuffle(n, func(i, k int) { masks[i], masks[k] = masks[k], masks[i] })
	for range n * n {
		if i, k := r.Intn(n), r.Intn(n); i != k {
			masks[i] ^= masks[k]
		}
	}
	return masks
}

// overlapping makes a hash of n masks of which some add up to 0.
func overlapping(r *rand.Rand, n int) []uint64 {
	masks := oneToOne(r, n)
	i := r.Intn(n)
	masks[i] = 0
	for k, mask := range masks {
		if k != i && r.Intn(2) == 0 {
			masks[i] ^= mask
		}
	}
	return masks
}

// small calls f for all hashes of up to three masks, and for some in whose masks there is a bit too many.
func small(f func(masks []uint64)) {
	f(nil)
	for a := range uint64(16) {
		f(of(a))
		for b := range uint64(16) {
			f(of(a, b))
			for c := range uint64(16) {
				f(of(a, b, c))
			}
		}
	}
}

// wrong are hashes with the errors of Check, each for one reason, and for several.
func wrong() []struct {
	masks []uint64
	err   api.Errno
} {
	return []struct {
		masks []uint64
		err   api.Errno
	}{
		{units(65), api.ErrSize},
		{append(units(64), 0), api.ErrSize},
		{make([]uint64, 65), api.ErrSize},
		{ones(65), api.ErrSize},
		{make([]uint64, 1000), api.ErrSize},
		{of(2), api.ErrRange},
		{of(3), api.ErrRange},
		{of(all), api.ErrRange},
		{of(1, 4), api.ErrRange},
		{of(4, 1), api.ErrRange},
		{of(4, 4), api.ErrRange},
		{of(0, 4), api.ErrRange},
		{of(0, 1<<63), api.ErrRange},
		{of(1<<32, 1), api.ErrRange},
		{append(units(62), 1<<63), api.ErrRange},
		{ones(63), api.ErrRange},
		{of(0), api.ErrOverlap},
		{of(1, 0), api.ErrOverlap},
		{of(1, 1), api.ErrOverlap},
		{of(3, 3), api.ErrOverlap},
		{of(3, 6, 5), api.ErrOverlap},
		{make([]uint64, 64), api.ErrOverlap},
		{ones(64), api.ErrOverlap},
		{append(units(63), all>>1), api.ErrOverlap},
	}
}

func wantMasks(t *testing.T, what string, got []uint64, err api.Errno, want []uint64) {
	t.Helper()
	if err != api.OK || !slices.Equal(got, want) {
		t.Errorf("%s: %v, error %d; want %v", what, got, err, want)
	}
}

// wantError checks an error, and that there is nothing beside it.
func wantError[E any](t *testing.T, what string, got []E, err, want api.Errno) {
	t.Helper()
	if err != want || len(got) != 0 {
		t.Errorf("%s: %v, error %d; want error %d", what, got, err, want)
	}
}

// must takes the result of a call that should not fail.
func must(t *testing.T, what string, masks []uint64, err api.Errno) []uint64 {
	t.Helper()
	if err != api.OK {
		t.Fatalf("%s: error %d", what, err)
	}
	return masks
}
