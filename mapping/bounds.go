package mapping

import (
	"memfault/api"
	"memfault/part"
)

// boundsFit reports whether Low and High are as they should be, for a map with a valid shape.
func boundsFit(m api.Map) bool {
	// Both are held against their limits first, so that their difference fits an int.
	if m.Low < 0 || m.Low > m.High || m.High > api.MaxAddress {
		return false
	}
	return m.Low <= part.Size(m.Shape) && end(m) <= api.MaxAddress
}

// hole returns how many physical addresses between the two parts of the memory are none.
func hole(m api.Map) int {
	return m.High - m.Low
}

// end returns the physical address from which on there is no memory.
func end(m api.Map) int {
	return hole(m) + part.Size(m.Shape)
}

// from returns the least physical address of the memory of a valid map that is not less than the given one.
func from(m api.Map, address int) (int, bool) {
	next := max(address, 0)
	if next >= m.Low {
		next = max(next, m.High)
	}
	if next >= end(m) {
		return 0, false
	}
	return next, true
}

// normal returns the normal address of a physical one.
func normal(m api.Map, address int) int {
	if address < m.Low {
		return address
	}
	return address - hole(m)
}

// physical returns the physical address with a normal one.
func physical(m api.Map, address int) int {
	if address < m.Low {
		return address
	}
	return address + hole(m)
}
