// Package number is layer 1: see shared/doc/01-number.md.
package number

import (
	"cmp"
	"math"

	"beadle/api"
)

const (
	nanBits uint64 = 0x7ff8000000000000
	signBit uint64 = 1 << 63
)

// nan is not math.NaN(), whose bits are others than those of the one NaN.
func nan() float64 { return math.Float64frombits(nanBits) }

// Fix leaves one NaN of all, so that two numbers are the same just if their bits are.
func Fix(x float64) float64 {
	if math.IsNaN(x) {
		return nan()
	}
	return x
}

// Bits are the bits of a number once it is fixed.
func Bits(x float64) uint64 { return math.Float64bits(Fix(x)) }

// Of is the number that has these bits, fixed.
func Of(bits uint64) float64 { return Fix(math.Float64frombits(bits)) }

// Same tells the noughts apart and takes NaN for itself, as == would not.
func Same(a, b float64) bool { return Bits(a) == Bits(b) }

// Compare is -1, 0 or 1: how a stands to b in the order of numbers.
func Compare(a, b float64) int { return cmp.Compare(place(a), place(b)) }

// place grows along the order of numbers. The bits of a number do so too, but for its sign: below nought they grow downwards, so there they are turned over.
func place(x float64) uint64 {
	b := Bits(x)
	if b&signBit != 0 {
		return ^b
	}
	return b | signBit
}

// True tells whether a number counts as true: neither a nought nor NaN.
func True(x float64) bool { return x != 0 && !math.IsNaN(x) }

// Index is which index of n things a number is.
func Index(x float64, n int) (int, api.Errno) {
	// Only what fits may be made an integer; NaN fails here too.
	if !(x >= 0 && x < 1<<63) {
		return 0, api.ErrIndex
	}
	i := int64(x)
	// The bound is held against i, since n made a float might be rounded.
	if float64(i) != x || i >= int64(n) {
		return 0, api.ErrIndex
	}
	return int(i), api.OK
}
