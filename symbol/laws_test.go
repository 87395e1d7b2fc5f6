package symbol_test

import (
	"bytes"
	"math/rand"
	"memfault/api"
	"memfault/symbol"
	"testing"
)

// If no more than t places that are not erased are wrong, the word is found; if there are more, up to Checks - t - the number of places erased, it is Lost.
func TestWrongAndErased(t *testing.T) {
	r := rand.New(rand.NewSource(9))
	for data := 1; data <= 32; data++ {
		for _, c := range codes(data) {
			word := someCodeWord(t, r, c)
			for count := range c.Checks + 1 {
				erased, others := somePlaces(r, len(word), count)
				limit := most(c, erased)
				for wrong := 0; wrong <= c.Checks-limit-count; wrong++ {
					bad := changed(r, changed(r, word, others[:wrong]), erased[:r.Intn(count+1)])
					want := lost()
					if wrong <= limit {
						want = became(bad, word)
					}
					wantResult(t, c, bad, erased, decode(c, bad, erased), want)
				}
			}
		}
	}
}

// However much is wrong, what is found is a code word that is close enough, and it is found again.
func TestMuchWrong(t *testing.T) {
	r := rand.New(rand.NewSource(10))
	found := 0
	for range 4000 {
		checks := 1 + r.Intn(8)
		c := code(1+r.Intn(32), checks, r.Intn(checks/2+1))
		word := someBytes(r, c.Data+checks)
		erased, others := somePlaces(r, len(word), r.Intn(checks+1))
		got := decode(c, word, erased)
		if got.decoded.Outcome == api.Lost {
			wantResult(t, c, word, erased, got, lost())
			continue
		}
		found++
		wantResult(t, c, word, erased, got, became(word, got.decoded.Word))
		wrong := 0
		for _, place := range others {
			if word[place] != got.decoded.Word[place] {
				wrong++
			}
		}
		if !isCodeWord(c, got.decoded.Word) || wrong > most(c, erased) {
			t.Errorf("Decode of %v without %v with %v: %v", word, erased, c, got)
		}
		wantResult(t, c, got.decoded.Word, erased, decode(c, got.decoded.Word, erased), became(got.decoded.Word, got.decoded.Word))
	}
	if found < 100 {
		t.Errorf("only %d words were found", found)
	}
}

// Any Data bytes of a code word determine it.
func TestDataBytesDetermine(t *testing.T) {
	r := rand.New(rand.NewSource(11))
	for data := 1; data <= 32; data++ {
		for _, c := range codes(data) {
			word := someCodeWord(t, r, c)
			erased, _ := somePlaces(r, len(word), c.Checks)
			bad := bytes.Clone(word)
			for _, place := range erased {
				bad[place] = 0
			}
			wantResult(t, c, bad, erased, decode(c, bad, erased), became(bad, word))
		}
	}
}

// Code words and syndromes add up, and the outcome does not depend on the code word that lies beneath.
func TestSums(t *testing.T) {
	r := rand.New(rand.NewSource(12))
	plus := func(a, b []byte) []byte {
		sum := bytes.Clone(a)
		for i, x := range b {
			sum[i] ^= x
		}
		return sum
	}
	for _, c := range codes(1, 3, 8, 32) {
		a, b := someCodeWord(t, r, c), someCodeWord(t, r, c)
		got, err := symbol.Encode(c, plus(a[:c.Data], b[:c.Data]))
		wantBytes(t, "Encode", c, nil, got, err, plus(a, b), api.OK)
		wrong, _ := somePlaces(r, len(a), r.Intn(len(a)+1))
		erased, _ := somePlaces(r, len(a), r.Intn(c.Checks+1))
		bad := changed(r, a, wrong)
		alone, err := symbol.Syndromes(c, plus(bad, a))
		wantBytes(t, "Syndromes", c, bad, alone, err, wantedSyndromes(c, bad), api.OK)
		one, other := decode(c, bad, erased), decode(c, plus(bad, b), erased)
		if one.decoded.Word != nil {
			one.decoded.Word = plus(one.decoded.Word, b)
		}
		wantResult(t, c, plus(bad, b), erased, other, one)
	}
}
