// Package codec writes and reads the canonical encoding of numbers, flags and texts. It is layer 1: see shared/doc/01-codec.md.
package codec

import (
	"math/bits"

	"replevin/api"
)

// MaxText is the maximum length of a text in bytes.
const MaxText = 1 << 24

// A number has at most 63 bits and a signed number at most 64, in groups of seven.
const (
	numberGroups = 9
	signedGroups = 10
)

// Size returns the length of the encoding of a number, or 0 if it is negative.
func Size(n int) int {
	if n < 0 {
		return 0
	}
	// The number 0 has one group, like 1.
	return (bits.Len64(uint64(n)|1) + 6) / 7
}

// Append appends the encoding of a number to bytes.
func Append(b []byte, n int) ([]byte, api.Errno) {
	if n < 0 {
		return nil, api.ErrRange
	}
	// A copy, because appending to b itself could write into memory of the caller.
	longer := make([]byte, len(b), len(b)+Size(n))
	copy(longer, b)
	return appendNatural(longer, uint64(n)), api.OK
}

// Parse returns the number whose encoding is at the beginning of bytes, and its length.
func Parse(b []byte) (n, size int, e api.Errno) {
	natural, size, e := parseNatural(b, numberGroups)
	return int(natural), size, e
}

func appendNatural(b []byte, n uint64) []byte {
	for n >= 128 {
		b = append(b, byte(n)|128)
		n >>= 7
	}
	return append(b, byte(n))
}

func parseNatural(b []byte, most int) (n uint64, size int, e api.Errno) {
	last := 0
	for last < len(b) && last < most && b[last] >= 128 {
		n |= uint64(b[last]-128) << (7 * last)
		last++
	}
	switch {
	case last == most:
		return 0, 0, api.ErrFormat
	case last == len(b):
		return 0, 0, api.ErrTruncated
	case last > 0 && b[last] == 0:
		return 0, 0, api.ErrFormat
	case last == signedGroups-1 && b[last] > 1:
		// Nine groups have 63 bits, so that one bit is left for the tenth.
		return 0, 0, api.ErrFormat
	}
	return n | uint64(b[last])<<(7*last), last + 1, api.OK
}
