package register_test

import (
	"math/rand"
	"memfault/api"
	"memfault/register"
	"slices"
	"testing"
)

// P11.1
func TestEncode(t *testing.T) {
	for _, c := range []struct {
		m    api.Map
		want []uint64
	}{
		{api.Map{}, of(empty, 0)},
		{api.Map{Masks: of()}, of(empty, 0)},
		{api.Map{Shape: api.Shape{Socket: 1}}, of(empty|0x1, 0)},
		{api.Map{Shape: api.Shape{Channel: 2}}, of(empty|0x20, 0)},
		{api.Map{Shape: api.Shape{Rank: 3}}, of(empty|0x300, 0)},
		{api.Map{Shape: api.Shape{Bank: 4}}, of(empty|0x4000, 0)},
		{api.Map{Shape: api.Shape{Row: 5}}, of(empty|0x50000, 0)},
		{api.Map{Shape: api.Shape{Column: 6}}, of(empty|0x600000, 0)},
		{api.Map{Shape: shapeOf([6]int{12})}, of(empty|0xc, 0)},
		{api.Map{Shape: shapeOf([6]int{0, 0, 0, 0, 0, 12})}, of(empty|0xc00000, 0)},
		{api.Map{Shape: shapeOf([6]int{1, 1, 2, 3, 4, 1})}, of(empty|0x143211, 0)},
		{api.Map{Masks: of(0)}, of(empty|0x1000000, 0, 0)},
		{api.Map{Masks: of(all, 0, 5)}, of(empty|0x3000000, 0, all, 0, 5)},
		{api.Map{Low: 1 << 20}, of(empty, 0x100000)},
		{api.Map{High: 1 << 20}, of(empty, 0x10000000000000)},
		{api.Map{Low: 0x12345, High: 0xabcde}, of(empty, 0xabcde00012345)},
		{api.Map{Low: 9, High: 3}, of(empty, 0x300000009)},
	} {
		got, err := register.Encode(c.m)
		wantRegisters(t, c.m, got, err, c.want)
	}
	for n := range 13 {
		m := api.Map{Shape: shapeOf([6]int{0, 0, 1, 2, 3, 4}), Masks: counted(n), Low: 7, High: 8}
		got, err := register.Encode(m)
		wantRegisters(t, m, got, err, registers(m))
	}
	for _, low := range edges() {
		for _, high := range edges() {
			m := api.Map{Masks: of(3, 2), Low: low, High: high}
			got, err := register.Encode(m)
			wantRegisters(t, m, got, err, registers(m))
		}
	}
}

func wantRegisters(t *testing.T, m api.Map, got []uint64, err api.Errno, want []uint64) {
	t.Helper()
	if err != api.OK || !slices.Equal(got, want) {
		t.Errorf("Encode of %v: %x, error %d; want %x", m, got, err, want)
	}
}

func TestEncodeErrors(t *testing.T) {
	wantError := func(m api.Map, want api.Errno) {
		t.Helper()
		if got, err := register.Encode(m); err != want || len(got) != 0 {
			t.Errorf("Encode of %v: %x, error %d; want error %d", m, got, err, want)
		}
	}
	for _, s := range wrongShapes() {
		wantError(api.Map{Shape: s}, api.ErrInvalid)
		wantError(api.Map{Shape: s, Masks: counted(13), Low: -1, High: -1}, api.ErrInvalid)
		wantError(api.Map{Shape: s, High: 1 << 32}, api.ErrInvalid)
	}
	for _, n := range []int{13, 14, 16, 64, 255, 256, 256 + 12, 512, 1 << 16} {
		wantError(api.Map{Masks: make([]uint64, n)}, api.ErrSize)
		wantError(api.Map{Masks: make([]uint64, n), Low: -1}, api.ErrSize)
		wantError(api.Map{Masks: make([]uint64, n), High: 1 << 32}, api.ErrSize)
	}
	for _, address := range beyond() {
		wantError(api.Map{Low: address}, api.ErrRange)
		wantError(api.Map{High: address}, api.ErrRange)
		wantError(api.Map{Shape: shapeOf([6]int{12}), Masks: counted(12), Low: address, High: 1 << 20}, api.ErrRange)
		wantError(api.Map{Shape: shapeOf([6]int{12}), Masks: counted(12), Low: 1 << 20, High: address}, api.ErrRange)
	}
}

// P11.2
func TestDecode(t *testing.T) {
	for _, c := range []struct {
		regs []uint64
		want api.Map
	}{
		{of(empty, 0), api.Map{}},
		{of(empty|0x1, 0), api.Map{Shape: api.Shape{Socket: 1}}},
		{of(empty|0x20, 0), api.Map{Shape: api.Shape{Channel: 2}}},
		{of(empty|0x300, 0), api.Map{Shape: api.Shape{Rank: 3}}},
		{of(empty|0x4000, 0), api.Map{Shape: api.Shape{Bank: 4}}},
		{of(empty|0x50000, 0), api.Map{Shape: api.Shape{Row: 5}}},
		{of(empty|0x600000, 0), api.Map{Shape: api.Shape{Column: 6}}},
		{of(empty|0xc, 0), api.Map{Shape: shapeOf([6]int{12})}},
		{of(empty|0xc00000, 0), api.Map{Shape: shapeOf([6]int{0, 0, 0, 0, 0, 12})}},
		{of(empty|0x143211, 0), api.Map{Shape: shapeOf([6]int{1, 1, 2, 3, 4, 1})}},
		{of(empty|0x1000000, 0, 0), api.Map{Masks: of(0)}},
		{of(empty|0x3000000, 0, all, 0, 5), api.Map{Masks: of(all, 0, 5)}},
		{of(empty, 0x100000), api.Map{Low: 1 << 20}},
		{of(empty, 0x10000000000000), api.Map{High: 1 << 20}},
		{of(empty, 0xabcde00012345), api.Map{Low: 0x12345, High: 0xabcde}},
		{of(empty, 0x300000009), api.Map{Low: 9, High: 3}},
	} {
		got, err := register.Decode(c.regs)
		wantMap(t, "Decode", got, err, c.want)
	}
	for n := range 13 {
		m := api.Map{Shape: shapeOf([6]int{0, 0, 1, 2, 3, 4}), Masks: counted(n), Low: 7, High: 8}
		got, err := register.Decode(registers(m))
		wantMap(t, "Decode", got, err, m)
	}
	for _, low := range edges() {
		for _, high := range edges() {
			m := api.Map{Masks: of(3, 2), Low: low, High: high}
			got, err := register.Decode(registers(m))
			wantMap(t, "Decode", got, err, m)
		}
	}
}

// All shapes of up to three bits for each part, and each seventh one of up to 15, most of which are not valid.
func TestDecodeShapes(t *testing.T) {
	for bits := range uint64(1 << 24) {
		if bits%7 != 0 && bits&0xcccccc != 0 {
			continue
		}
		var n [6]int
		sum := 0
		for k := range n {
			n[k] = int(bits >> (4 * k) & 15)
			sum += n[k]
		}
		want, m := api.ErrInvalid, api.Map{}
		if sum <= 12 {
			want, m = api.OK, api.Map{Shape: shapeOf(n)}
		}
		if got, err := register.Decode(of(empty|bits, 0)); err != want || !equal(got, m) {
			t.Fatalf("Decode of the shape %x: %v, error %d", bits, got, err)
		}
	}
}

func TestDecodeErrors(t *testing.T) {
	wantError(t, nil, api.ErrShort)
	wantError(t, of(), api.ErrShort)
	for _, first := range of(0, empty, empty|0xd, empty|1<<24, empty|1<<40, all) {
		wantError(t, of(first), api.ErrShort)
	}
	for sign := range uint64(256) {
		for _, rest := range of(0, 0xd, 0xff<<24, 0xffffffff) {
			if sign != 77 {
				wantError(t, of(sign<<56|rest, all), api.ErrForm)
				wantError(t, of(sign<<56|rest, 0, 1), api.ErrForm)
			}
		}
	}
	for bit := 32; bit < 56; bit++ {
		for _, rest := range of(0, 0xd, 0xff<<24, 0xffffffff) {
			wantError(t, of(empty|1<<bit|rest, 0), api.ErrForm)
			wantError(t, of(empty|1<<bit|rest, all, 1), api.ErrForm)
		}
	}
	for k := range 6 {
		for width := uint64(13); width < 16; width++ {
			wantError(t, of(empty|width<<(4*k), 0), api.ErrInvalid)
			wantError(t, of(empty|width<<(4*k)|1<<24, 0), api.ErrInvalid)
			wantError(t, of(empty|width<<(4*k), all), api.ErrInvalid)
			wantError(t, append(of(empty|width<<(4*k)|13<<24, all), make([]uint64, 13)...), api.ErrInvalid)
		}
	}
	for _, address := range of(1<<20+1, 1<<21, 1<<31, 1<<32-1) {
		for _, other := range of(0, 1<<20, 1<<32-1) {
			wantError(t, of(empty, other<<32|address), api.ErrRange)
			wantError(t, of(empty, address<<32|other), api.ErrRange)
			wantError(t, of(empty|0xc00000|1<<24, address<<32|other, 0), api.ErrRange)
		}
	}
}

// The number of masks is at most 12, and they are all there, and no more.
func TestDecodeSizes(t *testing.T) {
	for count := range uint64(256) {
		for _, there := range of(0, 1, 2, 11, 12, 13, 14, 254, 255, 256, 256+count, count-1, count, count+1) {
			if there > 1000 || there == count && count <= 12 {
				continue
			}
			for _, second := range of(0, all, 1<<63) {
				wantError(t, append(of(empty|count<<24, second), make([]uint64, there)...), api.ErrSize)
			}
		}
	}
}

func wantError(t *testing.T, regs []uint64, want api.Errno) {
	t.Helper()
	if got, err := register.Decode(regs); err != want || !equal(got, api.Map{}) {
		t.Errorf("Decode of %x: %v, error %d; want error %d", regs, got, err, want)
	}
}

// P11.3
func TestSame(t *testing.T) {
	maps := []api.Map{
		{},
		{Low: 1},
		{Low: -1},
		{High: 1},
		{Low: 1, High: 1},
		{Masks: of(0)},
		{Masks: of(0, 0)},
		{Masks: of(1)},
		{Masks: of(1, 2)},
		{Masks: of(2, 1)},
		{Masks: of(1, 2, 3)},
		{Masks: of(1 << 63)},
		{Masks: counted(13)},
		{Masks: counted(14)},
		{Shape: shapeOf([6]int{1, 2, 3, 1, 2, 3}), Masks: of(1, 2), Low: 1, High: 1},
	}
	for k := range 6 {
		for _, width := range []int{1, 2, -1, 16, 1 << 32} {
			var n [6]int
			n[k] = width
			maps = append(maps, api.Map{Shape: shapeOf(n)})
		}
	}
	for _, address := range append(beyond(), 5) {
		maps = append(maps, api.Map{Low: address, High: 2}, api.Map{Low: 2, High: address})
	}
	for i, a := range maps {
		for k, b := range maps {
			if got := register.Same(a, b); got != (i == k) || got != equal(a, b) {
				t.Errorf("Same of %v and %v: %v", a, b, got)
			}
		}
		b := a
		b.Masks = append(of(), a.Masks...)
		if !register.Same(a, b) || !register.Same(b, a) {
			t.Errorf("Same of %v and the like: false", a)
		}
	}
}

// R2: arguments stay as they are, and results have memory of their own.
func TestAlone(t *testing.T) {
	r := rand.New(rand.NewSource(1))
	for range 200 {
		m := someMap(r)
		other := m
		other.Masks = slices.Clone(m.Masks)
		regs := registers(m)
		wantAlone(t, "Encode", m.Masks, func(masks []uint64) []uint64 {
			m.Masks = masks
			result, _ := register.Encode(m)
			return result
		})
		wantAlone(t, "Decode", regs, func(regs []uint64) []uint64 {
			result, _ := register.Decode(regs)
			return result.Masks
		})
		wantAlone(t, "Same", other.Masks, func(masks []uint64) []uint64 {
			other.Masks = masks
			register.Same(m, other)
			register.Same(other, m)
			return nil
		})
	}
}

// wantAlone checks that a call changes neither its argument nor what lies behind it, and that its result has memory of its own.
func wantAlone(t *testing.T, what string, numbers []uint64, call func(numbers []uint64) []uint64) {
	t.Helper()
	behind := append(slices.Clone(numbers), 7, 8, 9)
	given := slices.Clone(behind)[:len(numbers)]
	result := call(given)
	again := slices.Clone(result)
	for k := range result[:cap(result)] {
		result[:cap(result)][k] ^= 85
	}
	if third := call(given); !slices.Equal(third, again) {
		t.Errorf("%s: %v, and then %v", what, again, third)
	}
	if !slices.Equal(given[:len(behind)], behind) {
		t.Errorf("%s has changed its argument %v", what, numbers)
	}
}
