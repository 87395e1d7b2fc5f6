package hash_test

import (
	"math/rand"
	"memfault/api"
	"memfault/hash"
	"slices"
	"testing"
)

// Inverse undoes a hash, and itself; joined with its inverse a hash leaves each address as it is.
func TestLawsOfInverse(t *testing.T) {
	r := rand.New(rand.NewSource(8))
	for n := 1; n <= 64; n++ {
		masks := oneToOne(r, n)
		inverse, err := hash.Inverse(masks)
		inverse = must(t, "Inverse", inverse, err)
		for range 20 {
			address := r.Uint64() >> (64 - n)
			if back := hash.Value(inverse, hash.Value(masks, address)); back != address {
				t.Errorf("%v and its inverse lead from %x to %x", masks, address, back)
			}
			if again := hash.Value(masks, hash.Value(inverse, address)); again != address {
				t.Errorf("the inverse of %v and the hash lead from %x to %x", masks, address, again)
			}
		}
		twice, err := hash.Inverse(inverse)
		wantMasks(t, "Inverse of the inverse", twice, err, masks)
		both, err := hash.Join(masks, inverse)
		wantMasks(t, "Join with the inverse", both, err, units(n))
		both, err = hash.Join(inverse, masks)
		wantMasks(t, "Join of the inverse", both, err, units(n))
	}
}

// Join is associative, leads from address to value to value, and is undone in the other order.
func TestLawsOfJoin(t *testing.T) {
	r := rand.New(rand.NewSource(9))
	join := func(first, second []uint64) []uint64 {
		joined, err := hash.Join(first, second)
		return must(t, "Join", joined, err)
	}
	inverse := func(masks []uint64) []uint64 {
		result, err := hash.Inverse(masks)
		return must(t, "Inverse", result, err)
	}
	for n := 1; n <= 64; n++ {
		a, b, c := oneToOne(r, n), oneToOne(r, n), oneToOne(r, n)
		wantMasks(t, "Join of three", join(join(a, b), c), api.OK, join(a, join(b, c)))
		wantMasks(t, "Join with units", join(a, units(n)), api.OK, a)
		wantMasks(t, "Join of units", join(units(n), a), api.OK, a)
		wantMasks(t, "Inverse of a join", inverse(join(a, b)), api.OK, join(inverse(b), inverse(a)))
		address := r.Uint64() >> (64 - n)
		if got, want := hash.Value(join(a, b), address), value(b, value(a, address)); got != want {
			t.Errorf("Join of %v and %v: %x leads to %x, want %x", a, b, address, got, want)
		}
	}
}

// With 2^b addresses that follow one another from a multiple of 2^b on, each value of a one to one hash occurs once.
func TestLawsOfSpread(t *testing.T) {
	r := rand.New(rand.NewSource(10))
	for n := range 13 {
		for range 4 {
			masks := oneToOne(r, n)
			from := r.Intn(1<<(20-n)+1) << n
			got, err := hash.Spread(masks, from, 1, 1<<n)
			if err != api.OK || !slices.Equal(got, slices.Repeat([]int{1}, 1<<n)) {
				t.Errorf("Spread of %v from %d: %v, error %d", masks, from, got, err)
			}
		}
	}
}

// The numbers of Spread add up to count.
func TestLawsOfCount(t *testing.T) {
	r := rand.New(rand.NewSource(11))
	for range 300 {
		masks := make([]uint64, r.Intn(13))
		for k := range masks {
			masks[k] = r.Uint64()
		}
		count := r.Intn(4097)
		got, err := hash.Spread(masks, r.Intn(1<<20+1), r.Intn(1<<20+1), count)
		sum := 0
		for _, times := range got {
			sum += times
		}
		if err != api.OK || sum != count {
			t.Errorf("Spread of %v: %d of %d addresses, error %d", masks, sum, count, err)
		}
	}
}
