package nat

import (
	"memfault/api"
	"slices"
	"strings"
)

const (
	// groupDigits is how many digits are taken from a number by one division.
	groupDigits = 9
	groupSize   = 1_000_000_000
)

// Print returns the value of a in decimal.
func Print(a api.Nat) string {
	if !Valid(a) {
		return ""
	}
	if len(a.Limbs) == 0 {
		return "0"
	}
	var digits []byte
	for rest := slices.Clone(a.Limbs); len(rest) > 0; rest = trim(rest) {
		group := shrink(rest, groupSize)
		for range groupDigits {
			digits = append(digits, byte('0'+group%10))
			group /= 10
		}
	}
	slices.Reverse(digits)
	return strings.TrimLeft(string(digits), "0")
}

// Parse returns the number that Print prints as s.
func Parse(s string) (api.Nat, api.Errno) {
	if len(s) > api.MaxDigits {
		return api.Nat{}, api.ErrLimit
	}
	if !isDecimal(s) {
		return api.Nat{}, api.ErrForm
	}
	var limbs []int
	for i := range len(s) {
		limbs = scale(limbs, 10, int(s[i]-'0'))
	}
	return within(limbs)
}

// isDecimal reports whether s consists of digits, without a leading zero that could be left out.
func isDecimal(s string) bool {
	for i := range len(s) {
		if s[i] < '0' || s[i] > '9' {
			return false
		}
	}
	return s == "0" || s != "" && s[0] != '0'
}
