package image

import (
	"strings"

	"replevin/api"
	"replevin/codec"
	"replevin/sha256"
)

// checkSize is the number of bytes of the check, with which an executable file ends.
const checkSize = 8

// Encode returns the bytes of an executable file, and Decode the image of an executable file.
func Encode(i Image) (string, api.Errno) {
	if e := i.Check(); e != api.OK {
		return "", e
	}
	w := codec.NewWriter()
	w.Text(i.Code)
	w.Text(i.Data)
	w.Number(i.Zero)
	w.Number(i.Entry)
	fields, e := w.Bytes()
	if e != api.OK {
		return "", e
	}
	body := Magic + string(fields)
	return body + checkOf(body), api.OK
}

func Decode(s string) (Image, api.Errno) {
	switch {
	case len(s) > MaxBytes:
		return Image{}, api.ErrLong
	case !IsImage(s):
		return Image{}, api.ErrFormat
	case len(s) < len(Magic)+checkSize:
		return Image{}, api.ErrShort
	}
	body, check := s[:len(s)-checkSize], s[len(s)-checkSize:]
	if checkOf(body) != check {
		return Image{}, api.ErrChecksum
	}
	i := parse(body[len(Magic):])
	if i == (Image{}) {
		return Image{}, api.ErrFormat
	}
	return i, api.OK
}

// IsImage reports whether a file begins as executable files do.
func IsImage(s string) bool { return strings.HasPrefix(s, Magic) }

// parse returns the valid image with some fields, or the zero one, which is not valid, if there is none.
func parse(fields string) Image {
	r := codec.NewReader([]byte(fields))
	var i Image
	i.Code = r.Text(MaxMemory)
	i.Data = r.Text(MaxMemory)
	i.Zero = r.Number(MaxMemory)
	i.Entry = r.Number(MaxMemory)
	if r.Close() != api.OK {
		return Image{}
	}
	return i.valid()
}

func checkOf(body string) string {
	d := sha256.Sum(body)
	return string(d[:checkSize])
}
