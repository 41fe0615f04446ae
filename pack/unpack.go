package pack

import (
	"slices"

	"replevin/api"
)

// Unpack returns the bytes of a packed form, at most a given number, or the offset of the first wrong token and its error.
func Unpack(p []byte, most int) (b []byte, at int, e api.Errno) { return UnpackWith(nil, p, most) }

func UnpackWith(dict, p []byte, most int) (b []byte, at int, e api.Errno) {
	switch {
	case most < 0 || most > MaxBytes:
		return nil, 0, api.ErrRange
	case len(dict) > MaxBytes:
		return nil, 0, api.ErrLong
	}
	text := slices.Clone(reachable(dict))
	begin := len(text)
	for at < len(p) {
		t, size, e := first(p[at:])
		if e == api.OK {
			e = t.check(len(text), begin+most)
		}
		if e != api.OK {
			return nil, at, e
		}
		text = t.appendTo(text)
		at += size
	}
	return text[begin:], 0, api.OK
}

// check returns the error of a token that follows a number of bytes, after which there may be at most another number.
func (t Token) check(before, most int) api.Errno {
	switch {
	case t.Distance > before:
		return api.ErrRange
	case before+len(t.Literals)+t.Length > most:
		return api.ErrLong
	}
	return api.OK
}

// appendTo appends the output of a token that follows a text.
func (t Token) appendTo(text []byte) []byte {
	text = append(text, t.Literals...)
	// One after the other, because a match may copy bytes that it has appended itself.
	for range t.Length {
		text = append(text, text[len(text)-t.Distance])
	}
	return text
}
