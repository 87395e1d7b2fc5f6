package symbol

import (
	"bytes"
	"memfault/api"
	"memfault/field"
	"memfault/poly"
	"slices"
)

// Decode looks for the code word that differs from the word at the places erased, and at as many others as the code corrects beside them.
func Decode(c api.Code, word []byte, erased []int) (api.Decoded, api.Errno) {
	values, err := Syndromes(c, word)
	if err == api.OK {
		err = errorOfPlaces(c, erased)
	}
	if err != api.OK {
		return api.Decoded{}, err
	}
	if isZero(values) {
		return api.Decoded{Outcome: api.Clean, Word: bytes.Clone(word)}, api.OK
	}
	wrong := wrongPlaces(c, values, erased)
	if len(wrong) > min(c.Fix, (c.Checks-len(erased))/2) {
		return api.Decoded{Outcome: api.Lost}, api.OK
	}
	fixed := corrected(c, word, values, slices.Concat(erased, wrong))
	// The wrong places were right only if the rest of the word agrees with them.
	if !isZero(syndromes(c, fixed)) {
		return api.Decoded{Outcome: api.Lost}, api.OK
	}
	return api.Decoded{Outcome: api.Fixed, Word: fixed, Chips: differences(word, fixed)}, api.OK
}

// errorOfPlaces returns what is wrong with a list of places erased, or OK.
func errorOfPlaces(c api.Code, erased []int) api.Errno {
	isOutside := func(place int) bool { return !isWithin(place, 0, length(c)-1) }
	switch {
	case slices.ContainsFunc(erased, isOutside):
		return api.ErrRange
	case !ascends(erased):
		return api.ErrOrder
	case len(erased) > c.Checks:
		return api.ErrLimit
	}
	return api.OK
}

// ascends reports whether each element of the list is greater than the one before.
func ascends(list []int) bool {
	for k := 1; k < len(list); k++ {
		if list[k] <= list[k-1] {
			return false
		}
	}
	return true
}

// isZero reports whether all bytes are 0.
func isZero(list []byte) bool {
	return !slices.ContainsFunc(list, func(b byte) bool { return b != 0 })
}

// wrongPlaces returns the places, beside those erased, that are wrong, if they are no more than the checks allow; otherwise it returns any places.
func wrongPlaces(c api.Code, values []byte, erased []int) []int {
	// What is weighed by a polynomial with roots at the places erased does not depend on the bytes there.
	gone := withRoots(locators(c, erased))
	rest := make([]byte, c.Checks-len(erased))
	for k := range rest {
		rest[k] = weigh(values[k:], gone)
	}
	p := recurrence(rest)
	var wrong []int
	for place := range length(c) {
		if poly.Eval(p, locator(c, place)) == 0 && !slices.Contains(erased, place) {
			wrong = append(wrong, place)
		}
	}
	return wrong
}

// recurrence returns a polynomial that weighs the list to 0 wherever it is laid on it: the one of the least degree, if that is at most half the length of the list. Its roots are then the locators of the wrong places.
func recurrence(list []byte) []byte {
	// Euclid's algorithm, stopped halfway. Each of its rests differs from the product of the list and a factor by a multiple of the power alone.
	last, next := power(len(list)), polynomial(list)
	var lastFactor []byte
	factor := []byte{1}
	for degree := len(next) - 1; 2*degree >= len(list); degree = len(next) - 1 {
		// All are valid, and no degree exceeds the length of the list: there are no errors.
		quotient, rest, _ := poly.Divide(last, next)
		product, _ := poly.Mul(quotient, factor)
		sum, _ := poly.Add(lastFactor, product)
		last, next = next, rest
		lastFactor, factor = factor, sum
	}
	return factor
}

// power returns the polynomial x^n.
func power(n int) []byte {
	p := make([]byte, n+1)
	p[n] = 1
	return p
}

// corrected returns the word with those bytes at the places that the syndromes ask for, if the word is right elsewhere. The places are different, and no more than there are checks.
func corrected(c api.Code, word, values []byte, places []int) []byte {
	fixed := bytes.Clone(word)
	list := locators(c, places)
	all := withRoots(list)
	for k, place := range places {
		// A polynomial that is 0 at all places but one leaves nothing but the byte there. It is not 0 at that one: there are no errors.
		other, _, _ := poly.Divide(all, []byte{list[k], 1})
		change, _ := field.Divide(weigh(values, other), poly.Eval(other, list[k]))
		fixed[place] ^= change
	}
	return fixed
}

// weigh returns the sum of values[k] times element k of p. For the syndromes this is the sum of the wrong bytes, each times the value of p at the locator of its place.
func weigh(values, p []byte) byte {
	sum := byte(0)
	for k, coefficient := range p {
		sum ^= field.Mul(coefficient, values[k])
	}
	return sum
}

// locator returns the element whose power k is the factor of a byte at the place in syndrome k.
func locator(c api.Code, place int) byte {
	return field.Exp(length(c) - 1 - place)
}

// locators returns the locators of places.
func locators(c api.Code, places []int) []byte {
	list := make([]byte, len(places))
	for k, place := range places {
		list[k] = locator(c, place)
	}
	return list
}

// differences returns the places at which two words of the same length differ.
func differences(word, other []byte) []int {
	var places []int
	for place := range word {
		if word[place] != other[place] {
			places = append(places, place)
		}
	}
	return places
}
