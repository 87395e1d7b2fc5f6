package nat_test

import (
	"math/big"
	"memfault/api"
	"memfault/nat"
	"strings"
	"testing"
)

// Print is the value in decimal, and Parse of it is the number.
func TestPrint(t *testing.T) {
	list := append(samples(), of(999_999_999&top, 999_999_999>>api.LimbBits))
	for k := range 100 {
		power, _ := nat.Power(of(10), k)
		less, _ := nat.Sub(power, of(1))
		list = append(list, power, less)
	}
	for _, a := range list {
		s := nat.Print(a)
		if want := toBig(a).String(); s != want {
			t.Errorf("Print of %v: %q, want %q", a.Limbs, s, want)
		}
		back, err := nat.Parse(s)
		wantBig(t, "Parse", back, err, toBig(a))
	}
}

func TestParse(t *testing.T) {
	for _, s := range []string{"0", "1", "9", "10", "16777215", "16777216", "1000000000", "1000000001", "281474976710656", "9" + strings.Repeat("0", 1443), strings.Repeat("9", 1444)} {
		want, _ := new(big.Int).SetString(s, 10)
		got, err := nat.Parse(s)
		wantBig(t, "Parse", got, err, want)
	}
}

func TestParseAtTheLimit(t *testing.T) {
	beyond := new(big.Int).Lsh(big.NewInt(1), api.LimbBits*api.MaxLimbs)
	last := new(big.Int).Sub(beyond, big.NewInt(1)).String()
	if len(last) != api.MaxDigits {
		t.Fatalf("the greatest number has %d digits", len(last))
	}
	got, err := nat.Parse(last)
	wantBig(t, "Parse of the greatest number", got, err, toBig(greatest()))
	for _, s := range []string{beyond.String(), strings.Repeat("9", 1445), strings.Repeat("9", 1446), "1" + strings.Repeat("0", 1445)} {
		got, err := nat.Parse(s)
		wantError(t, "Parse of a number with 201 limbs", got, err, api.ErrLimit)
	}
}

// A text that is too long is refused for that, whatever it says; one that is not too long has to be a number first.
func TestParseErrors(t *testing.T) {
	for _, s := range []string{
		"", "00", "01", "007", "+1", "-1", "-0", " 1", "1 ", "1\n", "1a", "a1", "0x10", "1_000", "1,000", "1.0", "1e3", "/", ":", "1/", "1:", "٣", "１", "1\x00", "\xff",
		strings.Repeat("x", 1445), "0" + strings.Repeat("9", 1444), strings.Repeat("0", 1445), strings.Repeat("9", 1444) + "x", "x" + strings.Repeat("9", 1444),
	} {
		got, err := nat.Parse(s)
		wantError(t, "Parse of a text that is no number", got, err, api.ErrForm)
	}
	for _, s := range []string{strings.Repeat("x", 1446), strings.Repeat("0", 1446), strings.Repeat("9", 1445) + "x", strings.Repeat("9", 1_000_000)} {
		got, err := nat.Parse(s)
		wantError(t, "Parse of a text that is too long", got, err, api.ErrLimit)
	}
}
