package mapping_test

import (
	"math"
	"math/rand"
	"memfault/api"
	"memfault/mapping"
	"slices"
	"testing"
)

// of are masks.
func of(masks ...uint64) []uint64 { return masks }

// units are the masks for which each address is its own value.
func units(n int) []uint64 {
	masks := make([]uint64, n)
	for k := range masks {
		masks[k] = 1 << k
	}
	return masks
}

// shapeOf is the shape with these numbers of bits.
func shapeOf(n [6]int) api.Shape {
	return api.Shape{Socket: n[0], Channel: n[1], Rank: n[2], Bank: n[3], Row: n[4], Column: n[5]}
}

// someShape is a shape with so many bits together.
func someShape(r *rand.Rand, bits int) api.Shape {
	var n [6]int
	for range bits {
		n[r.Intn(6)]++
	}
	return shapeOf(n)
}

// value adds up common bits one by one.
func value(masks []uint64, address int) int {
	result := 0
	for k, mask := range masks {
		common := 0
		for bit := range 64 {
			common += int(mask>>bit%2) * (address >> bit % 2)
		}
		result += common % 2 << k
	}
	return result
}

// checkMasks looks at the values of all addresses; for up to 12 masks.
func checkMasks(masks []uint64) api.Errno {
	size := 1 << len(masks)
	for _, mask := range masks {
		if mask >= uint64(size) {
			return api.ErrRange
		}
	}
	seen := make([]bool, size)
	for address := range size {
		v := value(masks, address)
		if seen[v] {
			return api.ErrOverlap
		}
		seen[v] = true
	}
	return api.OK
}

// someMasks makes a hash of n masks that is one to one, in steps of which each can be undone.
func someMasks(r *rand.Rand, n int) []uint64 {
	masks := units(n)
	r.Shuffle(n, func(i, k int) { masks[i], masks[k] = masks[k], masks[i] })
	for range n * n {
		if i, k := r.Intn(n), r.Intn(n); i != k {
			masks[i] ^= masks[k]
		}
	}
	return masks
}

// someMap makes a valid map of up to so many bits.
func someMap(r *rand.Rand, most int) api.Map {
	bits := r.Intn(most + 1)
	size := 1 << bits
	low := r.Intn(size + 1)
	high := low + r.Intn(1<<20-size+1)>>r.Intn(21)
	return api.Map{Shape: someShape(r, bits), Masks: someMasks(r, bits), Low: low, High: high}
}

// memory lists the physical addresses of a valid map in ascending order: each stands at its normal address.
func memory(m api.Map, size int) []int {
	var list []int
	for address := 0; address < m.Low; address++ {
		list = append(list, address)
	}
	for address := m.High; address <= m.High-m.Low+size-1; address++ {
		list = append(list, address)
	}
	return list
}

// places are all places of a shape, in the order of their indices.
func places(s api.Shape) []api.Place {
	list := []api.Place{{}}
	widen := func(bits int, number func(p *api.Place) *int) {
		var longer []api.Place
		for _, p := range list {
			for k := range 1 << bits {
				*number(&p) = k
				longer = append(longer, p)
			}
		}
		list = longer
	}
	widen(s.Socket, func(p *api.Place) *int { return &p.Socket })
	widen(s.Channel, func(p *api.Place) *int { return &p.Channel })
	widen(s.Rank, func(p *api.Place) *int { return &p.Rank })
	widen(s.Bank, func(p *api.Place) *int { return &p.Bank })
	widen(s.Row, func(p *api.Place) *int { return &p.Row })
	widen(s.Column, func(p *api.Place) *int { return &p.Column })
	return list
}

// far are numbers that are neither addresses nor indices of any memory.
func far() []int {
	return []int{math.MinInt, math.MinInt + 1, -1 << 32, -1 << 20, -4097, -2, -1, 1 << 20, 1<<20 + 1, 1 << 32, 1 << 62, math.MaxInt}
}

// wrong is a map with the error that Check should find.
type wrong struct {
	m   api.Map
	err api.Errno
}

// four is a shape with four places.
var four = api.Shape{Row: 1, Column: 1}

// twelve is a shape with as many bits as are permitted.
var twelve = shapeOf([6]int{1, 1, 2, 2, 3, 3})

// wrongMaps are maps with each of the errors of Check, and with several ones.
func wrongMaps() []wrong {
	var list []wrong
	add := func(s api.Shape, masks []uint64, low, high int, err api.Errno) {
		list = append(list, wrong{api.Map{Shape: s, Masks: masks, Low: low, High: high}, err})
	}
	for k := range 6 {
		for _, width := range []int{math.MinInt, -1, 13, 64, 1 << 32, math.MaxInt} {
			var n [6]int
			n[k] = width
			add(shapeOf(n), nil, 0, 0, api.ErrInvalid)
			add(shapeOf(n), units(12), 0, 0, api.ErrInvalid)
			add(shapeOf(n), units(13), 0, 0, api.ErrInvalid)
			add(shapeOf(n), of(4, 4), -1, -1, api.ErrInvalid)
			n[(k+1)%6] = 1
			add(shapeOf(n), nil, 0, 0, api.ErrInvalid)
		}
	}
	for bits := range 13 {
		s := someShape(rand.New(rand.NewSource(int64(bits))), bits)
		for _, n := range []int{0, 1, 2, 3, 11, 12, 13, 14, 31, 32, 62, 63, 64, 65, 128, 300, bits - 1, bits + 1, bits + 64} {
			if n >= 0 && n != bits {
				add(s, units(min(n, 64)), 0, 0, api.ErrSize)
				add(s, make([]uint64, n), 0, 0, api.ErrSize)
				add(s, slices.Repeat(of(math.MaxUint64), n), -1, -1, api.ErrSize)
			}
		}
		for k := range bits {
			for _, bit := range []int{bits, bits + 1, 31, 32, 63} {
				masks := units(bits)
				masks[k] |= 1 << bit
				add(s, masks, 0, 0, api.ErrRange)
				masks = make([]uint64, bits)
				masks[k] = 1 << bit
				add(s, masks, 0, 0, api.ErrRange)
			}
			masks := units(bits)
			masks[k] = 0
			add(s, masks, 0, 0, api.ErrOverlap)
			add(s, masks, 1, 0, api.ErrOverlap)
			masks = units(bits)
			masks[k] = masks[(k+1)%bits] ^ masks[(k+bits-1)%bits]
			add(s, masks, 0, 0, api.ErrOverlap)
			add(s, masks, -1, 1<<20+1, api.ErrOverlap)
		}
	}
	for _, bounds := range wrongBounds() {
		add(four, of(3, 2), bounds[0], bounds[1], api.ErrRange)
		add(four, of(4, 1), bounds[0], bounds[1], api.ErrRange)
		add(four, of(3, 3), bounds[0], bounds[1], api.ErrOverlap)
		add(four, of(3), bounds[0], bounds[1], api.ErrSize)
	}
	for _, bounds := range [][2]int{{4097, 4097}, {4097, 1 << 20}, {0, 1<<20 - 4095}, {4095, 1<<20 + 1}, {1, 1<<20 - 4094}, {0, 1 << 20}, {4096, 1<<20 + 1}} {
		add(twelve, units(12), bounds[0], bounds[1], api.ErrRange)
	}
	return list
}

// wrongBounds are pairs of Low and High that are not possible with four places.
func wrongBounds() [][2]int {
	list := [][2]int{
		{-1, -1}, {-1, 0}, {-1, 4}, {0, -1}, {1, 0}, {4, 3}, {2, 1}, {4, 0}, {4, -1},
		{5, 5}, {5, 6}, {5, 1 << 20}, {6, 6}, {5, 4}, {1 << 20, 1 << 20},
		{0, 1<<20 - 3}, {1, 1<<20 - 2}, {2, 1<<20 - 1}, {3, 1 << 20}, {0, 1 << 20}, {4, 1<<20 + 1},
		{math.MinInt, math.MinInt}, {math.MaxInt, math.MaxInt}, {math.MinInt, math.MaxInt}, {math.MaxInt, math.MinInt},
		{-4, 1<<20 + 1}, {-1, 1 << 20}, {1<<20 + 1, 1<<20 + 1},
	}
	for _, address := range far() {
		list = append(list, [2]int{address, 4}, [2]int{1, address})
	}
	return list
}

// wantAll checks all the functions with a map that should be valid, for all its addresses and some others.
func wantAll(t *testing.T, m api.Map) {
	t.Helper()
	all := places(m.Shape)
	list := memory(m, len(all))
	indexOf := map[int]int{}
	for k, address := range list {
		indexOf[address] = value(m.Masks, k)
	}
	for index, address := range addressesOf(list, m.Masks) {
		wantPlaced(t, m, address, index, all[index])
	}
	near := []int{m.Low, m.High, m.High - m.Low + len(all), len(all)}
	for _, edge := range append(near, far()...) {
		for _, address := range []int{edge - 2, edge - 1, edge, edge + 1} {
			wantNext(t, m, list, address)
			if _, ok := indexOf[address]; !ok {
				wantHole(t, m, address)
			}
		}
	}
	for _, address := range list {
		wantNext(t, m, list, address)
	}
	for _, index := range append(far(), len(all), len(all)+1) {
		if got, err := mapping.Address(m, index); got != 0 || err != api.ErrRange {
			t.Errorf("Address of %v, %d: %d, error %d", m, index, got, err)
		}
	}
}

// addressesOf are the physical addresses, in the order of their indices.
func addressesOf(list []int, masks []uint64) []int {
	result := make([]int, len(list))
	for k, address := range list {
		result[value(masks, k)] = address
	}
	return result
}

// wantPlaced checks that a physical address leads to an index and a place, and these lead back.
func wantPlaced(t *testing.T, m api.Map, address, index int, place api.Place) {
	t.Helper()
	if got, err := mapping.Locate(m, address); got != index || err != api.OK {
		t.Errorf("Locate of %v, %d: %d, error %d; want %d", m, address, got, err, index)
	}
	if got, err := mapping.Address(m, index); got != address || err != api.OK {
		t.Errorf("Address of %v, %d: %d, error %d; want %d", m, index, got, err, address)
	}
	if got, err := mapping.Place(m, address); got != place || err != api.OK {
		t.Errorf("Place of %v, %d: %v, error %d; want %v", m, address, got, err, place)
	}
	if got, err := mapping.Of(m, place); got != address || err != api.OK {
		t.Errorf("Of %v, %v: %d, error %d; want %d", m, place, got, err, address)
	}
}

// wantHole checks that there is nothing at a physical address.
func wantHole(t *testing.T, m api.Map, address int) {
	t.Helper()
	if got, err := mapping.Locate(m, address); got != 0 || err != api.ErrHole {
		t.Errorf("Locate of %v, %d: %d, error %d", m, address, got, err)
	}
	if got, err := mapping.Place(m, address); got != (api.Place{}) || err != api.ErrHole {
		t.Errorf("Place of %v, %d: %v, error %d", m, address, got, err)
	}
}

// wantNext checks Next with the list of the memory's physical addresses.
func wantNext(t *testing.T, m api.Map, list []int, address int) {
	t.Helper()
	want, there := 0, false
	for _, other := range list {
		if other >= address {
			want, there = other, true
			break
		}
	}
	if got, ok := mapping.Next(m, address); got != want || ok != there {
		t.Errorf("Next of %v, %d: %d, %v; want %d, %v", m, address, got, ok, want, there)
	}
}
