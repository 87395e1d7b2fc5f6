package mapping_test

import (
	"math"
	"math/rand"
	"memfault/api"
	"memfault/mapping"
	"slices"
	"testing"
)

// The example: the physical addresses 0 and 3 are memory.
func TestExample(t *testing.T) {
	m := api.Map{Shape: api.Shape{Column: 1}, Masks: of(1), Low: 1, High: 3}
	wantPlaced(t, m, 0, 0, api.Place{})
	wantPlaced(t, m, 3, 1, api.Place{Column: 1})
	for _, address := range []int{-1, 1, 2, 4, 5} {
		wantHole(t, m, address)
	}
	wantAll(t, m)
}

// P12.1
func TestCheck(t *testing.T) {
	for _, m := range []api.Map{
		{},
		{Masks: of()},
		{Low: 1, High: 1},
		{Low: 1, High: 1 << 20},
		{High: 1<<20 - 1},
		{Shape: four, Masks: of(3, 2)},
		{Shape: four, Masks: of(3, 2), Low: 4, High: 4},
		{Shape: four, Masks: of(3, 2), Low: 4, High: 1 << 20},
		{Shape: four, Masks: of(3, 2), Low: 0, High: 1<<20 - 4},
		{Shape: four, Masks: of(3, 2), Low: 1, High: 1<<20 - 3},
		{Shape: four, Masks: of(3, 2), Low: 3, High: 1<<20 - 1},
		{Shape: four, Masks: of(3, 2), Low: 2, High: 3},
		{Shape: twelve, Masks: units(12)},
		{Shape: twelve, Masks: units(12), Low: 4096, High: 1 << 20},
		{Shape: twelve, Masks: units(12), Low: 0, High: 1<<20 - 4096},
		{Shape: twelve, Masks: units(12), Low: 4095, High: 1<<20 - 1},
	} {
		if got := mapping.Check(m); got != api.OK {
			t.Errorf("Check of %v: %d", m, got)
		}
	}
	for _, c := range wrongMaps() {
		if got := mapping.Check(c.m); got != c.err {
			t.Errorf("Check of %v: %d, want %d", c.m, got, c.err)
		}
	}
}

// All masks with up to a bit too many, for shapes of up to two bits.
func TestCheckOfMasks(t *testing.T) {
	list := [][]uint64{nil}
	for range 3 {
		for _, masks := range list {
			for bits := range 3 {
				m := api.Map{Shape: api.Shape{Bank: bits / 2, Column: bits - bits/2}, Masks: masks}
				want := api.ErrSize
				if len(masks) == bits {
					want = checkMasks(masks)
				}
				if got := mapping.Check(m); got != want {
					t.Errorf("Check of %v: %d, want %d", m, got, want)
				}
			}
		}
		list = longer(list)
	}
}

// longer adds a mask of up to three bits to each list, in all ways.
func longer(list [][]uint64) [][]uint64 {
	var result [][]uint64
	for _, masks := range list {
		for mask := range uint64(8) {
			result = append(result, append(slices.Clone(masks), mask))
		}
	}
	return result
}

// Each Low of a small map and some beyond, with High near 0 and near its limit.
func TestCheckOfBounds(t *testing.T) {
	for bits := range 4 {
		size := 1 << bits
		for low := -2; low <= size+3; low++ {
			for _, start := range []int{-2, 1<<20 - size - 2} {
				for high := start; high <= start+2*size+6; high++ {
					want := api.ErrRange
					if 0 <= low && low <= high && high <= 1<<20 && low <= size && high-low+size <= 1<<20 {
						want = api.OK
					}
					m := api.Map{Shape: api.Shape{Row: bits}, Masks: units(bits), Low: low, High: high}
					if got := mapping.Check(m); got != want {
						t.Errorf("Check of %v: %d, want %d", m, got, want)
					}
				}
			}
		}
	}
}

// P12.2 and P12.3: small maps with each Low, and with High near Low and at its limit.
func TestSmall(t *testing.T) {
	r := rand.New(rand.NewSource(1))
	for bits := range 5 {
		size := 1 << bits
		for low := range size + 1 {
			for high := low; high <= low+size+2; high++ {
				wantAll(t, api.Map{Shape: someShape(r, bits), Masks: someMasks(r, bits), Low: low, High: high})
			}
			wantAll(t, api.Map{Shape: someShape(r, bits), Masks: someMasks(r, bits), Low: low, High: 1<<20 - size + low})
		}
	}
}

// All hashes of two masks that are one to one.
func TestHashes(t *testing.T) {
	for _, masks := range longer(longer([][]uint64{nil})) {
		if checkMasks(masks) == api.OK {
			wantAll(t, api.Map{Shape: api.Shape{Socket: 1, Bank: 1}, Masks: masks, Low: 1, High: 7})
			wantAll(t, api.Map{Shape: api.Shape{Channel: 2}, Masks: masks, Low: 3, High: 3})
		}
	}
}

func TestGreat(t *testing.T) {
	r := rand.New(rand.NewSource(2))
	for _, n := range [][6]int{{2, 2, 2, 2, 2, 2}, {12}, {0, 0, 0, 0, 12}, {0, 0, 0, 0, 0, 12}, {1, 1, 1, 2, 4, 3}} {
		for _, bounds := range [][2]int{{0, 0}, {0, 1<<20 - 4096}, {4096, 4096}, {4096, 1 << 20}, {1000, 5000}, {1, 1<<20 - 4095}} {
			wantAll(t, api.Map{Shape: shapeOf(n), Masks: someMasks(r, 12), Low: bounds[0], High: bounds[1]})
		}
	}
}

// The errors of Check come first, and then those of the address, the index or the place.
func TestWrongMaps(t *testing.T) {
	for _, c := range wrongMaps() {
		for _, address := range []int{0, -1, 2, 4096, 1 << 21, math.MinInt, math.MaxInt} {
			if got, err := mapping.Locate(c.m, address); got != 0 || err != c.err {
				t.Errorf("Locate of %v, %d: %d, error %d; want error %d", c.m, address, got, err, c.err)
			}
			if got, err := mapping.Address(c.m, address); got != 0 || err != c.err {
				t.Errorf("Address of %v, %d: %d, error %d; want error %d", c.m, address, got, err, c.err)
			}
			if got, err := mapping.Place(c.m, address); got != (api.Place{}) || err != c.err {
				t.Errorf("Place of %v, %d: %v, error %d; want error %d", c.m, address, got, err, c.err)
			}
			if got, err := mapping.Of(c.m, api.Place{Row: address}); got != 0 || err != c.err {
				t.Errorf("Of %v, row %d: %d, error %d; want error %d", c.m, address, got, err, c.err)
			}
			if got, ok := mapping.Next(c.m, address); got != 0 || ok {
				t.Errorf("Next of %v, %d: %d, %v", c.m, address, got, ok)
			}
		}
	}
}

// P12.3: a number of a place that the shape does not have.
func TestOfErrors(t *testing.T) {
	numbers := []func(p *api.Place) *int{
		func(p *api.Place) *int { return &p.Socket },
		func(p *api.Place) *int { return &p.Channel },
		func(p *api.Place) *int { return &p.Rank },
		func(p *api.Place) *int { return &p.Bank },
		func(p *api.Place) *int { return &p.Row },
		func(p *api.Place) *int { return &p.Column },
	}
	for _, n := range [][6]int{{}, {1, 1, 1, 1, 1, 1}, {2, 2, 2, 2, 2, 2}, {0, 1, 0, 3, 2, 1}, {3, 0, 2, 0, 1, 0}} {
		s, bits := shapeOf(n), 0
		for _, width := range n {
			bits += width
		}
		m := api.Map{Shape: s, Masks: units(bits), Low: 1, High: 9}
		for k, number := range numbers {
			for _, beyond := range append(far(), 1<<n[k], 1<<n[k]+1) {
				var p api.Place
				*number(&p) = beyond
				if got, err := mapping.Of(m, p); got != 0 || err != api.ErrRange {
					t.Errorf("Of %v, %v: %d, error %d", m, p, got, err)
				}
			}
			var p api.Place
			*number(&p) = 1<<n[k] - 1
			if _, err := mapping.Of(m, p); err != api.OK {
				t.Errorf("Of %v, %v: error %d", m, p, err)
			}
		}
	}
}

// R2 and R6: arguments stay as they are, and results depend on them only.
func TestAlone(t *testing.T) {
	r := rand.New(rand.NewSource(3))
	for range 200 {
		m := someMap(r, 12)
		if r.Intn(3) == 0 {
			m.High += 1 << 20
		}
		behind := append(slices.Clone(m.Masks), 7, 8, 9)
		given := m
		given.Masks = slices.Clone(behind)[:len(m.Masks)]
		address, index := r.Intn(2*m.High+10)-5, r.Intn(1<<len(m.Masks)+2)-1
		place := api.Place{Row: r.Intn(3), Column: r.Intn(3)}
		first := results(given, address, index, place)
		if again := results(given, address, index, place); first != again {
			t.Errorf("%v, and then %v", first, again)
		}
		if !slices.Equal(given.Masks[:len(behind)], behind) {
			t.Errorf("the masks of %v have changed", m)
		}
	}
}

// results are what all the functions give.
func results(m api.Map, address, index int, place api.Place) [10]any {
	checked := mapping.Check(m)
	located, err1 := mapping.Locate(m, address)
	there, err2 := mapping.Address(m, index)
	at, err3 := mapping.Place(m, address)
	of, err4 := mapping.Of(m, place)
	next, _ := mapping.Next(m, address)
	return [10]any{checked, located, err1, there, err2, at, err3, of, err4, next}
}
