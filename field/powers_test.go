package field_test

import (
	"math"
	"memfault/api"
	"memfault/field"
	"testing"
)

// P3.2, counting the factors, over more than two cycles to both sides.
func TestPower(t *testing.T) {
	for a := 1; a < 256; a++ {
		inverse := inverseOf(t, a)
		up, down := 1, 1
		for n := 0; n <= 600; n++ {
			got, err := field.Power(byte(a), n)
			wantElement(t, "Power", a, n, got, err, up)
			got, err = field.Power(byte(a), -n)
			wantElement(t, "Power", a, -n, got, err, down)
			up, down = product(up, a), product(down, inverse)
		}
	}
}

// An element other than 0 to the power of 255 is 1, so only the rest of an exponent counts.
func TestPowerFar(t *testing.T) {
	for a := 1; a < 256; a++ {
		if whole := factors(a, 255); whole != 1 {
			t.Fatalf("%d to the power of 255: %d", a, whole)
		}
		for _, n := range farExponents() {
			got, err := field.Power(byte(a), n)
			wantElement(t, "Power", a, n, got, err, factors(a, residue(n)))
		}
	}
}

func TestPowerExamples(t *testing.T) {
	for _, x := range [][3]int{
		{2, 8, 29}, {2, 0, 1}, {2, 1, 2}, {2, -1, 142}, {2, 254, 142}, {2, 255, 1}, {2, 256, 2}, {2, -254, 2}, {2, -255, 1}, {2, -256, 142},
		{2, math.MaxInt, 204}, {2, math.MinInt, 204},
		{1, 0, 1}, {1, 7, 1}, {1, -7, 1}, {1, 255, 1}, {1, math.MaxInt, 1}, {1, math.MinInt, 1},
	} {
		got, err := field.Power(byte(x[0]), x[1])
		wantElement(t, "Power", x[0], x[1], got, err, x[2])
	}
}

// The powers of 0 do not recur: only the one without factors is 1.
func TestPowerOfZero(t *testing.T) {
	got, err := field.Power(0, 0)
	wantElement(t, "Power", 0, 0, got, err, 1)
	exponents := farExponents()
	for n := 1; n <= 600; n++ {
		exponents = append(exponents, n, -n)
	}
	for _, n := range exponents {
		got, err := field.Power(0, n)
		if n < 0 {
			wantZero(t, "Power", 0, n, int(got), err)
			continue
		}
		wantElement(t, "Power", 0, n, got, err, 0)
	}
}

// P3.3, by doubling and halving from 1 on.
func TestExp(t *testing.T) {
	half := inverseOf(t, 2)
	up, down := 1, 1
	for n := 0; n <= 1030; n++ {
		wantElement(t, "Exp", n, 0, field.Exp(n), api.OK, up)
		wantElement(t, "Exp", -n, 0, field.Exp(-n), api.OK, down)
		up, down = product(up, 2), product(down, half)
	}
	for _, n := range farExponents() {
		wantElement(t, "Exp", n, 0, field.Exp(n), api.OK, factors(2, residue(n)))
	}
	for _, x := range [][2]int{{0, 1}, {1, 2}, {7, 128}, {8, 29}, {254, 142}, {255, 1}, {256, 2}, {-1, 142}, {-254, 2}, {-255, 1}, {-256, 142}} {
		wantElement(t, "Exp", x[0], 0, field.Exp(x[0]), api.OK, x[1])
	}
}

// The powers 0 to 254 of 2 are all elements but 0, each once, so they give every Log.
func TestLog(t *testing.T) {
	seen := [256]bool{}
	for n, a := 0, 1; n < 255; n, a = n+1, product(a, 2) {
		if a == 0 || seen[a] {
			t.Fatalf("2 to the power of %d is %d", n, a)
		}
		seen[a] = true
		got, err := field.Log(byte(a))
		if err != api.OK || got != n {
			t.Errorf("Log of %d: %d, error %d; want %d", a, got, err, n)
		}
	}
	got, err := field.Log(0)
	wantZero(t, "Log", 0, 0, got, err)
}
