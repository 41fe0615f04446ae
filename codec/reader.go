package codec

import (
	"slices"

	"replevin/api"
)

// Reader reads one value after another; after an error it reads zero values.
type Reader struct {
	b  []byte
	at int
	e  api.Errno
}

// NewReader returns a Reader of bytes.
func NewReader(b []byte) *Reader { return &Reader{b: slices.Clone(b)} }

// Number reads a number that is at most most, Signed any number, Flag a truth value, and Text a text of at most most bytes.
func (r *Reader) Number(most int) int {
	return read(r, func(b []byte) (int, int, api.Errno) { return parseNumber(b, most) })
}

func (r *Reader) Signed() int { return read(r, parseSigned) }

func (r *Reader) Flag() bool { return read(r, parseFlag) }

func (r *Reader) Text(most int) string {
	return read(r, func(b []byte) (string, int, api.Errno) { return parseText(b, most) })
}

// Rest returns the number of bytes that were not read, and Failed the first error and the offset of the value that has it.
func (r *Reader) Rest() int {
	if r == nil {
		return 0
	}
	return len(r.b) - r.at
}

func (r *Reader) Failed() (at int, e api.Errno) {
	switch {
	case r == nil:
		return 0, api.ErrArgument
	case r.e == api.OK:
		return 0, api.OK
	}
	return r.at, r.e
}

// Close returns the first error; it is one if bytes are left.
func (r *Reader) Close() api.Errno {
	if _, e := r.Failed(); e != api.OK {
		return e
	}
	if r.Rest() > 0 {
		return api.ErrLong
	}
	return api.OK
}

// read leaves the offset at a value with an error, so that it is both what Failed returns and what Rest counts from.
func read[T any](r *Reader, parse func(b []byte) (value T, size int, e api.Errno)) T {
	var none T
	if r == nil || r.e != api.OK {
		return none
	}
	value, size, e := parse(r.b[r.at:])
	if e != api.OK {
		r.e = e
		return none
	}
	r.at += size
	return value
}

func parseNumber(b []byte, most int) (int, int, api.Errno) {
	n, size, e := Parse(b)
	switch {
	case e != api.OK:
		return 0, 0, e
	case n > most:
		return 0, 0, api.ErrRange
	}
	return n, size, api.OK
}

func parseSigned(b []byte) (int, int, api.Errno) {
	natural, size, e := parseNatural(b, signedGroups)
	half := int(natural >> 1)
	if natural&1 == 1 {
		// The inverse of what Signed of a Writer does with negative numbers.
		half = ^half
	}
	return half, size, e
}

func parseFlag(b []byte) (bool, int, api.Errno) {
	switch {
	case len(b) == 0:
		return false, 0, api.ErrTruncated
	case b[0] > 1:
		return false, 0, api.ErrFormat
	}
	return b[0] == 1, 1, api.OK
}

func parseText(b []byte, most int) (string, int, api.Errno) {
	length, start, e := Parse(b)
	switch {
	case e != api.OK:
		return "", 0, e
	case length > most || length > MaxText:
		return "", 0, api.ErrLong
	case length > len(b)-start:
		return "", 0, api.ErrTruncated
	}
	return string(b[start : start+length]), start + length, api.OK
}
