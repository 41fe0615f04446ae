package codec_test

import (
	"math"
	"strings"
	"testing"

	"replevin/api"
	"replevin/codec"
)

// signedEncodings are encodings of signed numbers.
var signedEncodings = map[int]string{
	0: "\x00", -1: "\x01", 1: "\x02", -2: "\x03", 2: "\x04", 63: "\x7e", -64: "\x7f", 64: "\x80\x01", -65: "\x81\x01", 150: "\xac\x02",
	math.MaxInt: "\xfe\xff\xff\xff\xff\xff\xff\xff\xff\x01", math.MinInt: "\xff\xff\xff\xff\xff\xff\xff\xff\xff\x01",
	1 << 61: "\x80\x80\x80\x80\x80\x80\x80\x80\x40", 1 << 62: "\x80\x80\x80\x80\x80\x80\x80\x80\x80\x01", -(1 << 62): "\xff\xff\xff\xff\xff\xff\xff\xff\x7f",
}

// checkWritten tests what was written, and that asking for it changes nothing.
func checkWritten(t *testing.T, w *codec.Writer, want string) {
	t.Helper()
	for range 2 {
		if b, e := w.Bytes(); string(b) != want || e != api.OK || w.Len() != len(want) {
			t.Errorf("Bytes = %q, %d, Len = %d; want %q", b, e, w.Len(), want)
		}
	}
}

// checkFailed tests that a Writer has an error, and how much was written before it.
func checkFailed(t *testing.T, w *codec.Writer, length int, want api.Errno) {
	t.Helper()
	for range 2 {
		if b, e := w.Bytes(); len(b) != 0 || e != want || w.Len() != length {
			t.Errorf("Bytes = %q, %d, Len = %d; want nothing, %d, %d", b, e, w.Len(), want, length)
		}
	}
}

// P1.3
func TestNewWriter(t *testing.T) {
	checkWritten(t, codec.NewWriter(), "")
	checkWritten(t, new(codec.Writer), "")
	a, b := codec.NewWriter(), codec.NewWriter()
	a.Number(1)
	b.Number(2)
	checkWritten(t, a, "\x01")
	checkWritten(t, b, "\x02")
	var c codec.Writer
	c.Text("ab")
	checkWritten(t, &c, "\x02ab")
}

// P1.3
func TestWriterValues(t *testing.T) {
	for _, n := range someNumbers() {
		w := codec.NewWriter()
		w.Number(n)
		checkWritten(t, w, string(encode(uint64(n))))
	}
	for n, want := range signedEncodings {
		w := codec.NewWriter()
		w.Signed(n)
		checkWritten(t, w, want)
	}
	w := codec.NewWriter()
	w.Flag(true)
	checkWritten(t, w, "\x01")
	w.Flag(false)
	checkWritten(t, w, "\x01\x00")
	w.Text("ab")
	w.Text("")
	w.Text("\x00\xff\x80")
	checkWritten(t, w, "\x01\x00\x02ab\x00\x03\x00\xff\x80")
	w.Signed(-1)
	w.Number(300)
	checkWritten(t, w, "\x01\x00\x02ab\x00\x03\x00\xff\x80\x01\xac\x02")
}

// P1.3
func TestWriterLongTexts(t *testing.T) {
	for _, length := range []int{127, 128, 16384, codec.MaxText} {
		s := strings.Repeat("z", length)
		w := codec.NewWriter()
		w.Text(s)
		checkWritten(t, w, string(encode(uint64(length)))+s)
	}
	if codec.MaxText != 1<<24 {
		t.Error("MaxText")
	}
	w := codec.NewWriter()
	w.Number(7)
	w.Text(strings.Repeat("z", codec.MaxText+1))
	checkFailed(t, w, 1, api.ErrLong)
}

// P1.3
func TestWriterErrors(t *testing.T) {
	tooLong := strings.Repeat("z", codec.MaxText+1)
	for _, n := range []int{-1, -300, math.MinInt} {
		w := codec.NewWriter()
		w.Number(n)
		checkFailed(t, w, 0, api.ErrRange)
	}
	for name, write := range map[string]func(w *codec.Writer){
		"Number":          func(w *codec.Writer) { w.Number(5) },
		"Signed":          func(w *codec.Writer) { w.Signed(-5); w.Signed(5) },
		"Flag":            func(w *codec.Writer) { w.Flag(true); w.Flag(false) },
		"Text":            func(w *codec.Writer) { w.Text("text"); w.Text("") },
		"negative Number": func(w *codec.Writer) { w.Number(-1) },
		"long Text":       func(w *codec.Writer) { w.Text(tooLong) },
	} {
		t.Run(name, func(t *testing.T) {
			w := codec.NewWriter()
			w.Text("abc")
			w.Number(-1)
			write(w)
			checkFailed(t, w, 4, api.ErrRange)
			w = codec.NewWriter()
			w.Flag(true)
			w.Text(tooLong)
			write(w)
			checkFailed(t, w, 1, api.ErrLong)
		})
	}
}

// P1.6
func TestWriterBytesAreNew(t *testing.T) {
	w := codec.NewWriter()
	w.Text("abcdefgh")
	a, _ := w.Bytes()
	b, _ := w.Bytes()
	a[1] = 'x'
	if string(b) != "\x08abcdefgh" {
		t.Error("two results of Bytes share memory")
	}
	checkWritten(t, w, "\x08abcdefgh")
	w.Number(1)
	w.Number(2)
	_ = append(b, 77)
	checkWritten(t, w, "\x08abcdefgh\x01\x02")
	if string(b) != "\x08abcdefgh" {
		t.Error("writing changes what Bytes has returned")
	}
}

// P1.6
func TestNilWriter(t *testing.T) {
	var w *codec.Writer
	w.Number(1)
	w.Number(-1)
	w.Signed(-1)
	w.Flag(true)
	w.Text("a")
	w.Text(strings.Repeat("z", codec.MaxText+1))
	checkFailed(t, w, 0, api.ErrArgument)
}
