package codec_test

import (
	"bytes"
	"math"
	"testing"

	"replevin/api"
	"replevin/codec"
)

// encode is a plain model of the encoding of a natural number.
func encode(n uint64) []byte {
	var b []byte
	for n > 127 {
		b = append(b, byte(n%128)+128)
		n /= 128
	}
	return append(b, byte(n))
}

// someNumbers returns numbers around all the places where the encoding becomes longer.
func someNumbers() []int {
	numbers := []int{0, 1, 2, 5, 63, 64, 100, 300, 12345678, math.MaxInt - 1, math.MaxInt}
	for k := 1; k <= 8; k++ {
		n := 1 << (7 * k)
		numbers = append(numbers, n-1, n, n+1)
	}
	return numbers
}

// P1.1
func TestSize(t *testing.T) {
	for n, want := range map[int]int{0: 1, 1: 1, 127: 1, 128: 2, 300: 2, 16383: 2, 16384: 3, 1 << 21: 4, 1 << 28: 5, 1 << 35: 6, 1 << 42: 7, 1 << 49: 8, 1<<56 - 1: 8, 1 << 56: 9, math.MaxInt: 9, -1: 0, -128: 0, math.MinInt: 0} {
		if got := codec.Size(n); got != want {
			t.Errorf("Size(%d) = %d; want %d", n, got, want)
		}
	}
	for _, n := range someNumbers() {
		if got, want := codec.Size(n), len(encode(uint64(n))); got != want {
			t.Errorf("Size(%d) = %d; want %d", n, got, want)
		}
	}
}

// P1.1
func TestAppend(t *testing.T) {
	for n, want := range map[int]string{0: "\x00", 1: "\x01", 127: "\x7f", 128: "\x80\x01", 300: "\xac\x02", 16383: "\xff\x7f", 16384: "\x80\x80\x01", math.MaxInt: "\xff\xff\xff\xff\xff\xff\xff\xff\x7f"} {
		if b, e := codec.Append(nil, n); string(b) != want || e != api.OK {
			t.Errorf("Append(nil, %d) = %q, %d; want %q", n, b, e, want)
		}
	}
	for _, n := range someNumbers() {
		for _, before := range []string{"", "x", "before", "\x80\x80"} {
			want := before + string(encode(uint64(n)))
			if b, e := codec.Append([]byte(before), n); string(b) != want || e != api.OK {
				t.Errorf("Append(%q, %d) = %q, %d; want %q", before, n, b, e, want)
			}
		}
	}
}

// P1.1
func TestAppendOfNegative(t *testing.T) {
	for _, n := range []int{-1, -2, -128, math.MinInt} {
		for _, before := range []string{"", "before"} {
			if b, e := codec.Append([]byte(before), n); len(b) != 0 || e != api.ErrRange {
				t.Errorf("Append(%q, %d) = %q, %d; want nothing, ErrRange", before, n, b, e)
			}
		}
	}
}

// P1.1, P1.6
func TestAppendLeavesItsArgument(t *testing.T) {
	memory := []byte("0123456789")
	b, _ := codec.Append(memory[:3], 300)
	if string(memory) != "0123456789" {
		t.Errorf("Append has changed its argument to %q", memory)
	}
	memory[0] = 'x'
	if string(b) != "012\xac\x02" {
		t.Errorf("Append = %q shares memory with its argument", b)
	}
	b[1] = 'y'
	if string(memory) != "x123456789" {
		t.Errorf("the result of Append shares memory with its argument")
	}
	again, _ := codec.Append(memory[:3], 5)
	if string(b) != "0y2\xac\x02" || string(again) != "x12\x05" {
		t.Errorf("two results of Append share memory: %q, %q", b, again)
	}
}

// P1.2
func TestParse(t *testing.T) {
	for _, n := range someNumbers() {
		encoding := string(encode(uint64(n)))
		for _, after := range []string{"", "\x00", "zz", "\x80", "\xff\xff\xff\xff\xff\xff\xff\xff\xff\xff"} {
			got, size, e := codec.Parse([]byte(encoding + after))
			if got != n || size != len(encoding) || e != api.OK {
				t.Errorf("Parse(%q) = %d, %d, %d; want %d, %d", encoding+after, got, size, e, n, len(encoding))
			}
		}
	}
}

// P1.2
func TestParseErrors(t *testing.T) {
	eight := "\x80\x81\xff\x80\x80\xfe\x80\x80"
	for _, c := range []struct {
		s    string
		want api.Errno
	}{
		{"", api.ErrTruncated},
		{"\x80", api.ErrTruncated},
		{"\xff", api.ErrTruncated},
		{eight, api.ErrTruncated},
		{eight + "\x80", api.ErrFormat},
		{eight + "\x80\x01", api.ErrFormat},
		{eight + "\xff\xff\xff\xff", api.ErrFormat},
		{"\xff\xff\xff\xff\xff\xff\xff\xff\xff\x01", api.ErrFormat},
		{"\x80\x00", api.ErrFormat},
		{"\x81\x00", api.ErrFormat},
		{"\xff\x00\x01", api.ErrFormat},
		{"\x80\x80\x00", api.ErrFormat},
		{"\xac\x82\x00", api.ErrFormat},
		{eight + "\x00", api.ErrFormat},
	} {
		if n, size, e := codec.Parse([]byte(c.s)); n != 0 || size != 0 || e != c.want {
			t.Errorf("Parse(%q) = %d, %d, %d; want 0, 0, %d", c.s, n, size, e, c.want)
		}
	}
	if n, size, e := codec.Parse([]byte{0, 0}); n != 0 || size != 1 || e != api.OK {
		t.Errorf("Parse of two bytes 0 = %d, %d, %d; want 0, 1, OK", n, size, e)
	}
}

// P1.2: every number has one encoding only.
func TestParseAcceptsOnlyEncodings(t *testing.T) {
	for i := range 1 << 17 {
		b := []byte{byte(i), byte(i >> 8), byte(i >> 16)}
		given := bytes.Clone(b)
		n, size, e := codec.Parse(b)
		if !bytes.Equal(b, given) {
			t.Fatalf("Parse has changed %q", given)
		}
		if e == api.OK && !bytes.Equal(encode(uint64(n)), b[:size]) {
			t.Fatalf("Parse(%q) = %d, %d; the encoding is %q", b, n, size, encode(uint64(n)))
		}
		if valid := b[0] < 128 || b[1] > 0 && b[1] < 128 || b[1] >= 128 && b[2] > 0 && b[2] < 128; valid != (e == api.OK) {
			t.Fatalf("Parse(%q): %d", b, e)
		}
	}
}
