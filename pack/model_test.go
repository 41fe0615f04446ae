package pack_test

import (
	"bytes"
	"math/rand/v2"
	"slices"
	"testing"

	"replevin/api"
	"replevin/pack"
)

const large = int(^uint(0) >> 1)

// canonical returns the canonical tokens of bytes that follow a dictionary, by trying all distances at each place.
func canonical(dict, b []byte) []pack.Token {
	text := append(bytes.Clone(dict), b...)
	var l []pack.Token
	open := false // whether the last token is a run that may get more literals
	for at := len(dict); at < len(text); {
		distance, length := best(text, at)
		switch {
		case length >= 4:
			l = append(l, pack.Token{Distance: distance, Length: length})
			open = false
			at += length
		case open && len(l[len(l)-1].Literals) < 128:
			l[len(l)-1].Literals = append(l[len(l)-1].Literals, text[at])
			at++
		default:
			l = append(l, pack.Token{Literals: []byte{text[at]}})
			open = true
			at++
		}
	}
	return l
}

func best(text []byte, at int) (distance, length int) {
	for d := 1; d <= 4096 && d <= at; d++ {
		n := 0
		for n < 131 && at+n < len(text) && text[at+n] == text[at+n-d] {
			n++
		}
		if n > length {
			distance, length = d, n
		}
	}
	return distance, length
}

// bytesOf returns the bytes of tokens, which need not be permitted.
func bytesOf(l ...pack.Token) []byte {
	var p []byte
	for _, t := range l {
		if len(t.Literals) > 0 {
			p = append(p, byte(len(t.Literals)-1))
			p = append(p, t.Literals...)
			continue
		}
		p = append(p, byte(128+t.Length-4), byte((t.Distance-1)/256), byte((t.Distance-1)%256))
	}
	return p
}

// unpacked is what UnpackWith returns, with arguments that are within the limits.
func unpacked(dict, p []byte, most int) (b []byte, at int, e api.Errno) {
	for at < len(p) {
		size, n := 3, int(p[at])-124
		if p[at] < 128 {
			size, n = int(p[at])+2, int(p[at])+1
		}
		if len(p)-at < size {
			return nil, at, api.ErrTruncated
		}
		var literals []byte
		distance := 0
		if p[at] < 128 {
			literals = p[at+1 : at+size]
		} else {
			distance = int(p[at+1])*256 + int(p[at+2]) + 1
		}
		if distance > 4096 || distance > len(dict)+len(b) {
			return nil, at, api.ErrRange
		}
		if len(b)+n > most {
			return nil, at, api.ErrLong
		}
		b = append(b, literals...)
		for range n - len(literals) {
			b = append(b, append(bytes.Clone(dict), b...)[len(dict)+len(b)-distance])
		}
		at += size
	}
	return b, 0, api.OK
}

// someBytes returns bytes in which something occurs again, unless there are many letters.
func someBytes(random *rand.Rand, length, letters int) []byte {
	var b []byte
	for len(b) < length {
		if len(b) > 0 && random.IntN(4) == 0 {
			from := random.IntN(len(b))
			b = append(b, b[from:min(len(b), from+1+random.IntN(200))]...)
			continue
		}
		b = append(b, byte(random.IntN(letters)))
	}
	return b[:length]
}

func checkPack(t *testing.T, dict, b []byte) []byte {
	t.Helper()
	want := bytesOf(canonical(dict, b)...)
	p, e := pack.PackWith(dict, b)
	if e != api.OK || !bytes.Equal(p, want) {
		t.Fatalf("PackWith(%q, %q) = %q, %d; want %q", dict, b, p, e, want)
	}
	if got, at, e := pack.UnpackWith(dict, p, len(b)); e != api.OK || at != 0 || !bytes.Equal(got, b) {
		t.Fatalf("UnpackWith(%q, %q) = %q, %d, %d; want %q", dict, p, got, at, e, b)
	}
	return p
}

func checkUnpack(t *testing.T, dict, p []byte, most int, want []byte, wantAt int, wantError api.Errno) {
	t.Helper()
	b, at, e := pack.UnpackWith(dict, p, most)
	if !bytes.Equal(b, want) || at != wantAt || e != wantError {
		t.Errorf("UnpackWith(%d bytes, %q, %d) = %q, %d, %d; want %q, %d, %d", len(dict), p, most, b, at, e, want, wantAt, wantError)
	}
	if len(dict) > 0 {
		return
	}
	b, at, e = pack.Unpack(p, most)
	if !bytes.Equal(b, want) || at != wantAt || e != wantError {
		t.Errorf("Unpack(%q, %d) = %q, %d, %d; want %q, %d, %d", p, most, b, at, e, want, wantAt, wantError)
	}
}

func checkTokens(t *testing.T, p []byte, want []pack.Token, wantAt int, wantError api.Errno) {
	t.Helper()
	l, at, e := pack.Tokens(p)
	same := slices.EqualFunc(l, want, func(a, b pack.Token) bool {
		return bytes.Equal(a.Literals, b.Literals) && a.Distance == b.Distance && a.Length == b.Length
	})
	if !same || at != wantAt || e != wantError {
		t.Errorf("Tokens(%q) = %v, %d, %d; want %v, %d, %d", p, l, at, e, want, wantAt, wantError)
	}
}
