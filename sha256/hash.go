package sha256

import (
	"math/bits"

	"replevin/api"
)

// Hash computes the digest of a text that is written piece by piece.
//
// Two Hashes of the same text are equal as structs: words is zero before the first complete block, and rest is zero behind the bytes that are kept in it.
type Hash struct {
	words  [8]uint32
	rest   [BlockSize]byte
	length int
}

// constants are the words K(0) to K(63).
var constants = [64]uint32{
	0x428a2f98, 0x71374491, 0xb5c0fbcf, 0xe9b5dba5, 0x3956c25b, 0x59f111f1, 0x923f82a4, 0xab1c5ed5,
	0xd807aa98, 0x12835b01, 0x243185be, 0x550c7dc3, 0x72be5d74, 0x80deb1fe, 0x9bdc06a7, 0xc19bf174,
	0xe49b69c1, 0xefbe4786, 0x0fc19dc6, 0x240ca1cc, 0x2de92c6f, 0x4a7484aa, 0x5cb0a9dc, 0x76f988da,
	0x983e5152, 0xa831c66d, 0xb00327c8, 0xbf597fc7, 0xc6e00bf3, 0xd5a79147, 0x06ca6351, 0x14292967,
	0x27b70a85, 0x2e1b2138, 0x4d2c6dfc, 0x53380d13, 0x650a7354, 0x766a0abb, 0x81c2c92e, 0x92722c85,
	0xa2bfe8a1, 0xa81a664b, 0xc24b8b70, 0xc76c51a3, 0xd192e819, 0xd6990624, 0xf40e3585, 0x106aa070,
	0x19a4c116, 0x1e376c08, 0x2748774c, 0x34b0bcb5, 0x391c0cb3, 0x4ed8aa4a, 0x5b9cca4f, 0x682e6ff3,
	0x748f82ee, 0x78a5636f, 0x84c87814, 0x8cc70208, 0x90befffa, 0xa4506ceb, 0xbef9a3f7, 0xc67178f2,
}

// New returns a Hash to which nothing was written.
func New() *Hash { return &Hash{} }

// Write appends a text, Sum returns the digest of all that was written, and Len its length; Reset forgets it.
func (h *Hash) Write(s string) api.Errno {
	if h == nil {
		return api.ErrArgument
	}
	for len(s) > 0 {
		used := h.length % BlockSize
		n := copy(h.rest[used:], s)
		if used+n == BlockSize {
			h.words = compress(h.state(), h.rest)
			h.rest = [BlockSize]byte{}
		}
		h.length += n
		s = s[n:]
	}
	return api.OK
}

func (h *Hash) Sum() Digest {
	if h == nil {
		return Digest{}
	}
	words, last, used := h.state(), h.rest, h.length%BlockSize
	last[used] = 128
	if used >= BlockSize-8 {
		words = compress(words, last)
		last = [BlockSize]byte{}
	}
	count := 8 * uint64(h.length)
	for i := range 8 {
		last[BlockSize-1-i] = byte(count >> (8 * i))
	}
	words = compress(words, last)
	var d Digest
	for i := range d {
		d[i] = byte(words[i/4] >> (24 - 8*(i%4)))
	}
	return d
}

func (h *Hash) Len() int {
	if h == nil {
		return 0
	}
	return h.length
}

func (h *Hash) Reset() api.Errno {
	if h == nil {
		return api.ErrArgument
	}
	*h = Hash{}
	return api.OK
}

// Clone returns an independent copy, and Equal reports whether two Hashes have received the same text.
func (h *Hash) Clone() *Hash {
	if h == nil {
		return nil
	}
	clone := *h
	return &clone
}

func (h *Hash) Equal(o *Hash) bool {
	if h == nil || o == nil {
		return h == o
	}
	return *h == *o
}

// state lets the zero value be a Hash to which nothing was written.
func (h *Hash) state() [8]uint32 {
	if h.length < BlockSize {
		return [8]uint32{0x6a09e667, 0xbb67ae85, 0x3c6ef372, 0xa54ff53a, 0x510e527f, 0x9b05688c, 0x1f83d9ab, 0x5be0cd19}
	}
	return h.words
}

func compress(words [8]uint32, block [BlockSize]byte) [8]uint32 {
	w := schedule(block)
	a, b, c, d, e, f, g, h := words[0], words[1], words[2], words[3], words[4], words[5], words[6], words[7]
	for t := range 64 {
		p := h + (rotate(6, e) ^ rotate(11, e) ^ rotate(25, e)) + ((e & f) ^ (^e & g)) + constants[t] + w[t]
		q := (rotate(2, a) ^ rotate(13, a) ^ rotate(22, a)) + ((a & b) ^ (a & c) ^ (b & c))
		a, b, c, d, e, f, g, h = p+q, a, b, c, d+p, e, f, g
	}
	for i, word := range [8]uint32{a, b, c, d, e, f, g, h} {
		words[i] += word
	}
	return words
}

func schedule(block [BlockSize]byte) [64]uint32 {
	var w [64]uint32
	for i, b := range block {
		w[i/4] = w[i/4]<<8 | uint32(b)
	}
	for t := 16; t < 64; t++ {
		x, y := w[t-15], w[t-2]
		s0 := rotate(7, x) ^ rotate(18, x) ^ (x >> 3)
		s1 := rotate(17, y) ^ rotate(19, y) ^ (y >> 10)
		w[t] = w[t-16] + s0 + w[t-7] + s1
	}
	return w
}

func rotate(n int, x uint32) uint32 { return bits.RotateLeft32(x, -n) }
