package pack

import (
	"slices"

	"replevin/api"
)

// The first byte of a match is matchBit or greater, that of a run less.
const (
	matchBit  = 128
	matchSize = 3
)

// Token is a part of a packed form: literal bytes, or a copy of Length bytes that begin Distance bytes before.
type Token struct {
	Literals         []byte
	Distance, Length int
}

// writer writes tokens. Literals wait until their run has as many of them as possible.
type writer struct {
	packed []byte
	run    []byte
}

func (w *writer) literal(c byte) {
	w.run = append(w.run, c)
	if len(w.run) == MaxRun {
		w.endRun()
	}
}

func (w *writer) match(distance, length int) {
	w.endRun()
	w.packed = append(w.packed, byte(matchBit+length-MinMatch), byte((distance-1)>>8), byte(distance-1))
}

func (w *writer) endRun() {
	if len(w.run) == 0 {
		return
	}
	w.packed = append(w.packed, byte(len(w.run)-1))
	w.packed = append(w.packed, w.run...)
	w.run = w.run[:0]
}

// Tokens returns the tokens of a packed form.
func Tokens(p []byte) (l []Token, at int, e api.Errno) {
	for at < len(p) {
		t, size, e := first(p[at:])
		if e != api.OK {
			return nil, at, e
		}
		t.Literals = slices.Clone(t.Literals)
		l = append(l, t)
		at += size
	}
	return l, 0, api.OK
}

// first returns the token at the beginning of bytes, whose literals are a part of them, and its size.
func first(p []byte) (t Token, size int, e api.Errno) {
	if p[0] < matchBit {
		size = 2 + int(p[0])
		if len(p) < size {
			return Token{}, 0, api.ErrTruncated
		}
		return Token{Literals: p[1:size]}, size, api.OK
	}
	if len(p) < matchSize {
		return Token{}, 0, api.ErrTruncated
	}
	t = Token{Distance: int(p[1])<<8 + int(p[2]) + 1, Length: int(p[0]) - matchBit + MinMatch}
	if t.Distance > Window {
		return Token{}, 0, api.ErrRange
	}
	return t, matchSize, api.OK
}
