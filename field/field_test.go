package field_test

import (
	"memfault/api"
	"memfault/field"
	"testing"
)

// P3.1, against the product of polynomials.
func TestMul(t *testing.T) {
	for a := 0; a < 256; a++ {
		for b := 0; b < 256; b++ {
			wantElement(t, "Mul", a, b, field.Mul(byte(a), byte(b)), api.OK, product(a, b))
		}
	}
}

func TestMulExamples(t *testing.T) {
	for _, x := range [][3]int{{2, 128, 29}, {0, 0, 0}, {0, 255, 0}, {255, 0, 0}, {1, 1, 1}, {1, 255, 255}, {255, 1, 255}, {3, 3, 5}, {4, 128, 58}, {255, 255, 226}} {
		wantElement(t, "Mul", x[0], x[1], field.Mul(byte(x[0]), byte(x[1])), api.OK, x[2])
	}
}

func TestInverse(t *testing.T) {
	for a := 1; a < 256; a++ {
		inverse, err := field.Inverse(byte(a))
		wantElement(t, "Inverse", a, 0, inverse, err, inverseOf(t, a))
	}
	one, err := field.Inverse(1)
	wantElement(t, "Inverse", 1, 0, one, err, 1)
	half, err := field.Inverse(2)
	wantElement(t, "Inverse", 2, 0, half, err, 142)
	got, err := field.Inverse(0)
	wantZero(t, "Inverse", 0, 0, int(got), err)
}

func TestDivide(t *testing.T) {
	for b := 1; b < 256; b++ {
		inverse := inverseOf(t, b)
		for a := 0; a < 256; a++ {
			quotient, err := field.Divide(byte(a), byte(b))
			wantElement(t, "Divide", a, b, quotient, err, product(a, inverse))
		}
	}
	for a := 0; a < 256; a++ {
		got, err := field.Divide(byte(a), 0)
		wantZero(t, "Divide", a, 0, int(got), err)
	}
}
