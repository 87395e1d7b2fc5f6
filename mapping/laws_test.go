package mapping_test

import (
	"math/rand"
	"memfault/api"
	"memfault/mapping"
	"memfault/part"
	"testing"
)

// The memory has as many physical addresses as the shape has places, each at one place; Next goes through them.
func TestLawsOfMemory(t *testing.T) {
	r := rand.New(rand.NewSource(4))
	for range 60 {
		m := someMap(r, 10)
		seen := map[api.Place]bool{}
		address, ok := mapping.Next(m, -1)
		for steps := 0; ok && steps <= 1<<10; steps++ {
			place, err := mapping.Place(m, address)
			if err != api.OK || !part.ValidPlace(m.Shape, place) || seen[place] {
				t.Fatalf("Place of %v, %d: %v, error %d, seen: %v", m, address, place, err, seen[place])
			}
			seen[place] = true
			address, ok = mapping.Next(m, address+1)
		}
		if len(seen) != part.Size(m.Shape) {
			t.Errorf("%v has %d physical addresses, and %d places", m, len(seen), part.Size(m.Shape))
		}
	}
}

// Address undoes Locate, and Locate undoes Address.
func TestLawsOfLocate(t *testing.T) {
	r := rand.New(rand.NewSource(5))
	for range 3000 {
		m := someMap(r, 12)
		index := r.Intn(part.Size(m.Shape))
		address, err := mapping.Address(m, index)
		if back, err2 := mapping.Locate(m, address); back != index || err != api.OK || err2 != api.OK {
			t.Errorf("Address and Locate of %v: %d, %d, %d; errors %d and %d", m, index, address, back, err, err2)
		}
		address, ok := mapping.Next(m, r.Intn(m.High+1))
		if !ok {
			continue
		}
		index, err = mapping.Locate(m, address)
		if back, err2 := mapping.Address(m, index); back != address || err != api.OK || err2 != api.OK {
			t.Errorf("Locate and Address of %v: %d, %d, %d; errors %d and %d", m, address, index, back, err, err2)
		}
	}
}

// Place and Of undo each other, and the index of a place is that of its physical address.
func TestLawsOfPlace(t *testing.T) {
	r := rand.New(rand.NewSource(6))
	for range 3000 {
		m := someMap(r, 12)
		index := r.Intn(part.Size(m.Shape))
		place, _ := part.At(m.Shape, index)
		address, err := mapping.Of(m, place)
		if back, err2 := mapping.Place(m, address); back != place || err != api.OK || err2 != api.OK {
			t.Errorf("Of and Place of %v: %v, %d, %v; errors %d and %d", m, place, address, back, err, err2)
		}
		if located, err := mapping.Locate(m, address); located != index || err != api.OK {
			t.Errorf("Locate of %v, %d: %d, error %d; want %d", m, address, located, err, index)
		}
	}
}
