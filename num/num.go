// Package num is layer 1: numbers as bytes. See shared/doc/01-num.md.
package num

import (
	"math"
	"math/bits"

	"prolepsis/api"
)

const (
	groupBits = 7
	groupMask = 1<<groupBits - 1
	more      = 1 << groupBits

	// Nine groups hold 63 bits: the tenth byte may hold the one that is left.
	lastPlace = 9
	lastMost  = 1
)

// Bytes: numbers as bytes.
func Bytes(l ...uint64) []byte {
	var b []byte
	for _, n := range l {
		for ; n > groupMask; n >>= groupBits {
			b = append(b, byte(n&groupMask)|more)
		}
		b = append(b, byte(n))
	}
	return b
}

// Size: how many bytes a number has.
func Size(n uint64) int {
	// 0 has a group too, so it counts as if it had a bit.
	return (bits.Len64(n|1) + groupBits - 1) / groupBits
}

// Read: the number that bytes begin with, and how many it has.
func Read(b []byte) (uint64, int, api.Errno) {
	var n uint64
	e := api.ErrEnd
	for i, c := range b {
		if misformed(i, c) {
			e = api.ErrForm
			goto wrong
		}
		n |= uint64(c&groupMask) << (groupBits * i)
		if c < more {
			return n, i + 1, api.OK
		}
	}
wrong:
	return 0, 0, e
}

// misformed: no number has this byte at this place.
func misformed(place int, c byte) bool {
	needless := c == 0 && place > 0
	return needless || place == lastPlace && c > lastMost
}

// Add: a sum, not beyond the greatest number.
func Add(a, b uint64) uint64 {
	sum, carry := bits.Add64(a, b, 0)
	if carry != 0 {
		return math.MaxUint64
	}
	return sum
}

// Sub: a difference, not below 0.
func Sub(a, b uint64) uint64 {
	if b > a {
		return 0
	}
	return a - b
}
