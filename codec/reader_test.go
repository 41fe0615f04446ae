package codec_test

import (
	"math"
	"strings"
	"testing"

	"replevin/api"
	"replevin/codec"
)

const anyNumber = math.MaxInt

// checkReader tests what a Reader says about itself, and that asking changes nothing.
func checkReader(t *testing.T, r *codec.Reader, rest, at int, failed, closed api.Errno) {
	t.Helper()
	for range 2 {
		if gotAt, e := r.Failed(); gotAt != at || e != failed {
			t.Errorf("Failed = %d, %d; want %d, %d", gotAt, e, at, failed)
		}
		if got := r.Rest(); got != rest {
			t.Errorf("Rest = %d; want %d", got, rest)
		}
		if e := r.Close(); e != closed {
			t.Errorf("Close = %d; want %d", e, closed)
		}
	}
}

// checkZeros tests that all methods return zero values.
func checkZeros(t *testing.T, r *codec.Reader) {
	t.Helper()
	if n := r.Number(anyNumber); n != 0 {
		t.Errorf("Number = %d", n)
	}
	if n := r.Signed(); n != 0 {
		t.Errorf("Signed = %d", n)
	}
	if r.Flag() {
		t.Error("Flag = true")
	}
	if s := r.Text(anyNumber); s != "" {
		t.Errorf("Text = %q", s)
	}
}

// P1.4
func TestReaderValues(t *testing.T) {
	for _, n := range someNumbers() {
		for _, most := range []int{n, anyNumber} {
			r := codec.NewReader(encode(uint64(n)))
			if got := r.Number(most); got != n {
				t.Errorf("Number = %d; want %d", got, n)
			}
			checkReader(t, r, 0, 0, api.OK, api.OK)
		}
	}
	for n, encoding := range signedEncodings {
		r := codec.NewReader([]byte(encoding + "\x01"))
		if got := r.Signed(); got != n || r.Rest() != 1 {
			t.Errorf("Signed = %d; want %d", got, n)
		}
	}
	r := codec.NewReader([]byte("\x01\x00\x02ab\x00\x03\x00\xff\x80\x03\xac\x02"))
	if !r.Flag() || r.Flag() {
		t.Error("Flag")
	}
	if r.Text(2) != "ab" || r.Text(0) != "" || r.Text(anyNumber) != "\x00\xff\x80" {
		t.Error("Text")
	}
	checkReader(t, r, 3, 0, api.OK, api.ErrLong)
	if r.Signed() != -2 || r.Number(300) != 300 {
		t.Error("Signed, Number")
	}
	checkReader(t, r, 0, 0, api.OK, api.OK)
}

// P1.4
func TestReaderLongTexts(t *testing.T) {
	for _, length := range []int{127, 128, 16384, codec.MaxText} {
		s := strings.Repeat("z", length)
		r := codec.NewReader(append(encode(uint64(length)), s...))
		if r.Text(length) != s {
			t.Errorf("Text of %d bytes", length)
		}
		checkReader(t, r, 0, 0, api.OK, api.OK)
	}
	tooLong := append(encode(codec.MaxText+1), strings.Repeat("z", codec.MaxText+1)...)
	for _, most := range []int{codec.MaxText, codec.MaxText + 1, anyNumber} {
		r := codec.NewReader(tooLong)
		if s := r.Text(most); s != "" {
			t.Errorf("Text returns %d bytes", len(s))
		}
		checkReader(t, r, len(tooLong), 0, api.ErrLong, api.ErrLong)
	}
}

// P1.4, P1.5: each value begins behind the texts "ab" and "".
func TestReaderErrors(t *testing.T) {
	number := func(most int) func(r *codec.Reader) bool {
		return func(r *codec.Reader) bool { return r.Number(most) == 0 }
	}
	text := func(most int) func(r *codec.Reader) bool {
		return func(r *codec.Reader) bool { return r.Text(most) == "" }
	}
	signed := func(r *codec.Reader) bool { return r.Signed() == 0 }
	flag := func(r *codec.Reader) bool { return !r.Flag() }
	nine := strings.Repeat("\x80", 9)
	for _, c := range []struct {
		name, s string
		read    func(r *codec.Reader) bool
		want    api.Errno
	}{
		{"Number", "", number(anyNumber), api.ErrTruncated},
		{"Number", nine[:8], number(anyNumber), api.ErrTruncated},
		{"Number", nine, number(anyNumber), api.ErrFormat},
		{"Number", nine + "\x01", number(anyNumber), api.ErrFormat},
		{"Number", "\x80\x00", number(anyNumber), api.ErrFormat},
		{"Number", "\x80\x00", number(-1), api.ErrFormat},
		{"Number", "\x80", number(-1), api.ErrTruncated},
		{"Number", "\x06", number(5), api.ErrRange},
		{"Number", "\x01", number(0), api.ErrRange},
		{"Number", "\x00", number(-1), api.ErrRange},
		{"Number", "\x07\x01", number(math.MinInt), api.ErrRange},
		{"Number", "\xff\xff\xff\xff\xff\xff\xff\xff\x7f", number(anyNumber - 1), api.ErrRange},
		{"Signed", "", signed, api.ErrTruncated},
		{"Signed", "\xff", signed, api.ErrTruncated},
		{"Signed", nine, signed, api.ErrTruncated},
		{"Signed", nine + "\x80", signed, api.ErrFormat},
		{"Signed", nine + "\xff\x01", signed, api.ErrFormat},
		{"Signed", "\x80\x00", signed, api.ErrFormat},
		{"Signed", "\x81\x80\x00", signed, api.ErrFormat},
		{"Signed", nine + "\x00", signed, api.ErrFormat},
		{"Signed", nine + "\x02", signed, api.ErrFormat},
		{"Signed", nine + "\x03", signed, api.ErrFormat},
		{"Signed", nine + "\x7f", signed, api.ErrFormat},
		{"Flag", "", flag, api.ErrTruncated},
		{"Flag", "\x02", flag, api.ErrFormat},
		{"Flag", "\x80\x01", flag, api.ErrFormat},
		{"Flag", "\xff", flag, api.ErrFormat},
		{"Text", "", text(anyNumber), api.ErrTruncated},
		{"Text", "\x80", text(-1), api.ErrTruncated},
		{"Text", "\x80\x00", text(-1), api.ErrFormat},
		{"Text", nine + "\x01", text(anyNumber), api.ErrFormat},
		{"Text", "\x03ab", text(3), api.ErrTruncated},
		{"Text", "\x01", text(anyNumber), api.ErrTruncated},
		{"Text", "\x03abc", text(2), api.ErrLong},
		{"Text", "\x03ab", text(2), api.ErrLong},
		{"Text", "\x00", text(-1), api.ErrLong},
		{"Text", "\x00", text(math.MinInt), api.ErrLong},
		{"Text", "\x01a", text(0), api.ErrLong},
		{"Text", "\x80\x80\x80\x08", text(anyNumber), api.ErrTruncated},
		{"Text", "\x81\x80\x80\x08", text(anyNumber), api.ErrLong},
		{"Text", "\xff\xff\xff\xff\xff\xff\xff\xff\x7f", text(anyNumber), api.ErrLong},
	} {
		r := codec.NewReader([]byte("\x02ab\x00" + c.s))
		if r.Text(2) != "ab" || r.Text(0) != "" {
			t.Errorf("%s of %q: the texts before it", c.name, c.s)
		}
		if !c.read(r) {
			t.Errorf("%s of %q returns a value", c.name, c.s)
		}
		t.Logf("%s of %q", c.name, c.s)
		checkReader(t, r, len(c.s), 4, c.want, c.want)
		checkZeros(t, r)
		checkReader(t, r, len(c.s), 4, c.want, c.want)
	}
}

// P1.4: nothing is read after an error, though values without an error follow.
func TestReaderKeepsFirstError(t *testing.T) {
	r := codec.NewReader([]byte("\x09\x05\x01\x01\x01\x01"))
	if r.Number(9) != 9 || r.Number(4) != 0 {
		t.Error("Number")
	}
	checkZeros(t, r)
	if r.Number(5) != 0 {
		t.Error("Number after an error")
	}
	checkReader(t, r, 5, 1, api.ErrRange, api.ErrRange)
	r = codec.NewReader([]byte("\x02"))
	r.Flag()
	r.Number(-1)
	checkReader(t, r, 1, 0, api.ErrFormat, api.ErrFormat)
}

// P1.4
func TestReaderWithoutBytes(t *testing.T) {
	for _, read := range []func(r *codec.Reader){
		func(r *codec.Reader) { r.Number(anyNumber) },
		func(r *codec.Reader) { r.Signed() },
		func(r *codec.Reader) { r.Flag() },
		func(r *codec.Reader) { r.Text(anyNumber) },
	} {
		for _, r := range []*codec.Reader{new(codec.Reader), codec.NewReader(nil), codec.NewReader([]byte{})} {
			checkReader(t, r, 0, 0, api.OK, api.OK)
			read(r)
			checkReader(t, r, 0, 0, api.ErrTruncated, api.ErrTruncated)
			checkZeros(t, r)
		}
	}
}

// P1.5
func TestReaderClose(t *testing.T) {
	r := codec.NewReader([]byte{1, 5})
	checkReader(t, r, 2, 0, api.OK, api.ErrLong)
	if !r.Flag() {
		t.Error("Flag after Close")
	}
	checkReader(t, r, 1, 0, api.OK, api.ErrLong)
	if r.Number(5) != 5 {
		t.Error("Number after Close")
	}
	checkReader(t, r, 0, 0, api.OK, api.OK)
	r.Flag()
	checkReader(t, r, 0, 2, api.ErrTruncated, api.ErrTruncated)
}

// P1.6
func TestNilReader(t *testing.T) {
	var r *codec.Reader
	checkReader(t, r, 0, 0, api.ErrArgument, api.ErrArgument)
	checkZeros(t, r)
	checkReader(t, r, 0, 0, api.ErrArgument, api.ErrArgument)
}

// P1.6
func TestReaderDoesNotRetainItsArgument(t *testing.T) {
	b := []byte("\x02ab\x05")
	r := codec.NewReader(b)
	copy(b, "\x01xyz")
	first := r.Text(2)
	copy(b, "\x80\x80\x80\x80")
	if first != "ab" || r.Number(5) != 5 {
		t.Error("the Reader reads bytes that were changed after it was made")
	}
	if string(b) != "\x80\x80\x80\x80" {
		t.Error("the Reader changes its argument")
	}
}
