package frame

import "replevin/api"

// bounds are the stream to which frames belong, and the number of the next one.
type bounds struct{ stream, next int }

func (b bounds) check() api.Errno {
	if b.stream < 0 || b.stream > MaxStream || b.next < 0 || b.next > MaxNumber {
		return api.ErrRange
	}
	return api.OK
}

// scan returns what Scan does, also if the next number is greater than that of any frame.
func (b bounds) scan(s string) (l []Frame, end int, why api.Errno) {
	for end < len(s) {
		f, size, e := Decode(s[end:])
		if e != api.OK {
			return l, end, e
		}
		if f.Stream != b.stream || f.Number != b.next {
			return l, end, api.ErrSequence
		}
		l = append(l, f)
		end += size
		b.next++
	}
	return l, end, api.OK
}

// Scan returns the frames of a stream with consecutive numbers at the beginning of bytes, where they end, and why.
func Scan(s string, stream, number int) (l []Frame, end int, why api.Errno) {
	b := bounds{stream, number}
	if e := b.check(); e != api.OK {
		return nil, 0, e
	}
	return b.scan(s)
}

// Place is a frame with the offset where it begins.
type Place struct {
	At    int
	Frame Frame
}

// Salvage returns the frames that are found in any bytes.
func Salvage(s string) []Place {
	var l []Place
	for at := 0; at < len(s); {
		f, size, e := Decode(s[at:])
		if e != api.OK {
			at++
			continue
		}
		l = append(l, Place{at, f})
		at += size
	}
	return l
}
