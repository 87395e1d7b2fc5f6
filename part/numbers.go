package part

import "memfault/api"

// The numbers of a place, from the most significant one on.
const (
	socket = iota
	channel
	rank
	bank
	row
	column
	count // how many they are
)

// numbers has something for each number of a place.
type numbers [count]int

// widths returns the numbers of bits of a shape.
func widths(s api.Shape) numbers {
	return numbers{socket: s.Socket, channel: s.Channel, rank: s.Rank, bank: s.Bank, row: s.Row, column: s.Column}
}

// ofPlace returns the numbers of a place.
func ofPlace(p api.Place) numbers {
	return numbers{socket: p.Socket, channel: p.Channel, rank: p.Rank, bank: p.Bank, row: p.Row, column: p.Column}
}

// toPlace returns the place with these numbers.
func toPlace(own numbers) api.Place {
	return api.Place{Socket: own[socket], Channel: own[channel], Rank: own[rank], Bank: own[bank], Row: own[row], Column: own[column]}
}
