// Package sha256 computes SHA-256 digests of texts and of lists of texts. It is layer 2: see shared/doc/02-sha256.md.
package sha256

import (
	"bytes"
	"strings"

	"replevin/api"
)

// Size is the number of bytes of a digest, BlockSize that of a block, and MaxParts the maximum length of a list that is tagged.
const (
	Size      = 32
	BlockSize = 64
	MaxParts  = 255
)

const hexDigits = "0123456789abcdef"

// Digest is a digest.
type Digest [Size]byte

// Sum returns the digest of a text.
func Sum(s string) Digest {
	var h Hash
	h.Write(s)
	return h.Sum()
}

// Join returns the text that stands for a tag and a list of texts, and Tagged its digest.
func Join(tag byte, parts ...string) (string, api.Errno) {
	if len(parts) > MaxParts {
		return "", api.ErrLimit
	}
	var joined strings.Builder
	joined.WriteByte(tag)
	joined.WriteByte(byte(len(parts)))
	for _, part := range parts {
		for shift := 24; shift >= 0; shift -= 8 {
			joined.WriteByte(byte(len(part) >> shift))
		}
		joined.WriteString(part)
	}
	return joined.String(), api.OK
}

func Tagged(tag byte, parts ...string) (Digest, api.Errno) {
	joined, e := Join(tag, parts...)
	if e != api.OK {
		return Digest{}, e
	}
	return Sum(joined), api.OK
}

// Compare orders digests byte by byte, and IsZero reports whether all bytes of a digest are 0.
func Compare(a, b Digest) int { return bytes.Compare(a[:], b[:]) }

func (d Digest) IsZero() bool { return d == Digest{} }

func (d Digest) String() string {
	text := make([]byte, 0, 2*Size)
	for _, b := range d {
		text = append(text, hexDigits[b>>4], hexDigits[b&15])
	}
	return string(text)
}

// Parse returns the digest with a text; on error it returns the offset of the error.
func Parse(s string) (Digest, int, api.Errno) {
	var d Digest
	for i := range min(len(s), 2*Size) {
		value := strings.IndexByte(hexDigits, s[i])
		if value < 0 {
			return Digest{}, i, api.ErrByte
		}
		d[i/2] = d[i/2]<<4 | byte(value)
	}
	switch {
	case len(s) < 2*Size:
		return Digest{}, len(s), api.ErrShort
	case len(s) > 2*Size:
		return Digest{}, 2 * Size, api.ErrLong
	}
	return d, 0, api.OK
}
