// Package wire: numbers and texts as bytes, and sums: layer 1: see DOC.md and doc/01-wire.md.
package wire

import "math/bits"

const (
	mostLimit = 1 << 26
	mostText  = 1<<16 - 1
	mostPad   = 4096
)

// number is what can be written, and read again, as bytes.
type number interface {
	uint8 | uint16 | uint32 | uint64
}

// width is how many bytes a number of this kind has.
func width[N number]() int {
	return bits.Len64(uint64(^N(0))) / 8
}

// mayPad tells whether one can pad to a multiple of this.
func mayPad(to int) bool {
	return 1 <= to && to <= mostPad
}

// padding is how many bytes it takes from a place to the next multiple.
func padding(place, to int) int {
	return (to - place%to) % to
}
