package frame_test

import (
	standard "crypto/sha256"
	"encoding/binary"
	"math/rand/v2"
	"slices"
	"strings"
	"testing"

	"replevin/api"
	"replevin/frame"
)

const large = int(^uint(0) >> 1)

// joined is the text that stands for a tag and a list of texts (layer 2).
func joined(tag byte, parts ...string) []byte {
	b := []byte{tag, byte(len(parts))}
	for _, part := range parts {
		b = binary.BigEndian.AppendUint32(b, uint32(len(part)))
		b = append(b, part...)
	}
	return b
}

// raw returns bytes with fields that a frame may not have, and with checks that fit. The payload may be shorter than its length in the header says.
func raw(kind byte, stream uint32, number uint64, length uint32, payload string) string {
	b := []byte{245, kind}
	b = binary.BigEndian.AppendUint32(b, stream)
	b = binary.BigEndian.AppendUint64(b, number)
	b = binary.BigEndian.AppendUint32(b, length)
	h := string(b)
	first := standard.Sum256(joined(10, h))
	second := standard.Sum256(joined(11, h, payload))
	return h + string(first[:8]) + payload + string(second[:16])
}

func bytesOf(f frame.Frame) string {
	return raw(byte(f.Kind), uint32(f.Stream), uint64(f.Number), uint32(len(f.Payload)), f.Payload)
}

// encoded returns the bytes of a frame.
func encoded(t *testing.T, f frame.Frame) string {
	t.Helper()
	s, e := frame.Encode(f)
	if e != api.OK {
		t.Fatalf("Encode(%d, %d, %d, %d bytes) = %d", f.Kind, f.Stream, f.Number, len(f.Payload), e)
	}
	return s
}

// flipped returns a text with another byte at an offset.
func flipped(s string, at int, by byte) string {
	b := []byte(s)
	b[at] ^= by
	return string(b)
}

func someText(random *rand.Rand, length int) string {
	var b strings.Builder
	for range length {
		switch random.IntN(4) {
		case 0:
			b.WriteByte(245)
		case 1:
			b.WriteByte(0)
		default:
			b.WriteByte(byte(random.IntN(256)))
		}
	}
	return b.String()
}

func someFrame(random *rand.Rand) frame.Frame {
	f := frame.Frame{Kind: random.IntN(256), Stream: random.IntN(3), Number: random.IntN(3), Payload: someText(random, random.IntN(80))}
	switch random.IntN(8) {
	case 0:
		f.Stream = frame.MaxStream - random.IntN(3)
	case 1:
		f.Number = frame.MaxNumber - random.IntN(3)
	case 2:
		f.Stream, f.Number = random.IntN(frame.MaxStream), random.IntN(frame.MaxNumber)
	case 3:
		f.Payload = ""
	case 4:
		// A payload that contains frames.
		f.Payload = bytesOf(someFrame(random)) + someText(random, random.IntN(3)) + bytesOf(someFrame(random))
	}
	return f
}

// series returns frames of a stream with consecutive numbers, and their bytes.
func series(random *rand.Rand, stream, number, count int) (l []frame.Frame, s string) {
	for i := range count {
		f := someFrame(random)
		f.Stream, f.Number = stream, number+i
		l = append(l, f)
		s += bytesOf(f)
	}
	return l, s
}

// scanned is a model of Scan for any first number.
func scanned(s string, stream, number int) (l []frame.Frame, end int, why api.Errno) {
	for rest := s; rest != ""; rest = s[end:] {
		f, size, e := frame.Decode(rest)
		if e != api.OK {
			return l, end, e
		}
		if f.Stream != stream || f.Number != number+len(l) {
			return l, end, api.ErrSequence
		}
		l, end = append(l, f), end+size
	}
	return l, end, api.OK
}

func equal(a, b []frame.Frame) bool { return slices.Equal(a, b) }
