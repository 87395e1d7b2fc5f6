package register_test

import (
	"math/rand"
	"memfault/api"
	"memfault/register"
	"slices"
	"testing"
)

// Decode of Encode is the map.
func TestThereAndBack(t *testing.T) {
	r := rand.New(rand.NewSource(2))
	for range 5000 {
		m := someMap(r)
		regs, err := register.Encode(m)
		wantRegisters(t, m, regs, err, registers(m))
		back, err := register.Decode(regs)
		wantMap(t, "Decode of Encode", back, err, m)
		if !register.Same(back, m) {
			t.Errorf("Same of %v and %v: false", back, m)
		}
	}
}

// Encode of Decode gives the registers, wherever Decode gives a map.
func TestBackAndThere(t *testing.T) {
	r := rand.New(rand.NewSource(3))
	maps := 0
	for range 50000 {
		regs := registers(someMap(r))
		for range r.Intn(4) {
			regs[r.Intn(min(len(regs), 3))] ^= 1 << r.Intn(64)
		}
		m, err := register.Decode(regs)
		if err != api.OK {
			continue
		}
		maps++
		if again, err := register.Encode(m); err != api.OK || !slices.Equal(again, regs) {
			t.Errorf("Encode of Decode of %x: %x, error %d", regs, again, err)
		}
	}
	if maps < 20000 {
		t.Errorf("only %d maps", maps)
	}
}
