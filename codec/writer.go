package codec

import (
	"slices"

	"replevin/api"
)

// Writer writes one value after another; after an error it writes nothing.
type Writer struct {
	b []byte
	e api.Errno
}

// NewWriter returns a Writer that has written nothing.
func NewWriter() *Writer { return &Writer{} }

// Number writes a number that is not negative, Signed any number, Flag a truth value, and Text a text.
func (w *Writer) Number(n int) {
	if n < 0 {
		w.fail(api.ErrRange)
		return
	}
	w.natural(uint64(n))
}

func (w *Writer) Signed(n int) {
	if n < 0 {
		// The complement -n-1 has no overflow, also for the least number; 2(-n-1) + 1 is -2n - 1.
		w.natural(2*uint64(^n) + 1)
		return
	}
	w.natural(2 * uint64(n))
}

func (w *Writer) Flag(is bool) {
	if is {
		w.natural(1)
	} else {
		w.natural(0)
	}
}

func (w *Writer) Text(s string) {
	if len(s) > MaxText {
		w.fail(api.ErrLong)
		return
	}
	w.natural(uint64(len(s)))
	if w.open() {
		w.b = append(w.b, s...)
	}
}

// Len returns the number of bytes that were written, and Bytes these bytes, or the first error.
func (w *Writer) Len() int {
	if w == nil {
		return 0
	}
	return len(w.b)
}

func (w *Writer) Bytes() ([]byte, api.Errno) {
	if w == nil {
		return nil, api.ErrArgument
	}
	if w.e != api.OK {
		return nil, w.e
	}
	return slices.Clone(w.b), api.OK
}

func (w *Writer) open() bool { return w != nil && w.e == api.OK }

func (w *Writer) fail(e api.Errno) {
	if w.open() {
		w.e = e
	}
}

func (w *Writer) natural(n uint64) {
	if w.open() {
		w.b = appendNatural(w.b, n)
	}
}
