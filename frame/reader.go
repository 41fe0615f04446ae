package frame

import (
	"bytes"

	"replevin/api"
)

// Reader reads frames from pieces of bytes.
//
// The bytes that wait are not a text, which would be copied as a whole for each piece.
type Reader struct {
	bounds
	waiting []byte
	failed  api.Errno
}

// NewReader returns a Reader for the frames of a stream from a number on.
func NewReader(stream, number int) (*Reader, api.Errno) {
	b := bounds{stream, number}
	if e := b.check(); e != api.OK {
		return nil, e
	}
	return &Reader{bounds: b}, api.OK
}

// Feed returns the frames that a piece completes; after an error the Reader accepts nothing.
func (r *Reader) Feed(s string) ([]Frame, api.Errno) {
	if e := r.Failed(); e != api.OK {
		return nil, e
	}
	r.waiting = append(r.waiting, s...)
	if r.unfinished() {
		return nil, api.OK
	}
	all := string(r.waiting)
	l, end, why := r.scan(all)
	r.next += len(l)
	if why != api.OK && why != api.ErrTruncated {
		r.waiting, r.failed = nil, why
		return l, why
	}
	r.waiting = []byte(all[end:])
	return l, api.OK
}

// unfinished reports whether the bytes that wait end before the first frame does, as far as they tell.
func (r *Reader) unfinished() bool {
	_, size, e := readHeader(string(r.waiting[:min(len(r.waiting), HeaderSize)]))
	return e == api.ErrTruncated || e == api.OK && len(r.waiting) < size
}

// Next returns the number of the next frame, Pending the number of bytes that wait, and Failed the error that has ended reading, or OK.
func (r *Reader) Next() int {
	if r == nil {
		return 0
	}
	return r.next
}

func (r *Reader) Pending() int {
	if r == nil {
		return 0
	}
	return len(r.waiting)
}

func (r *Reader) Failed() api.Errno {
	if r == nil {
		return api.ErrArgument
	}
	return r.failed
}

// Clone returns an independent copy, and Equal reports whether two Readers are in the same state.
func (r *Reader) Clone() *Reader {
	if r == nil {
		return nil
	}
	c := *r
	c.waiting = bytes.Clone(r.waiting)
	return &c
}

func (r *Reader) Equal(o *Reader) bool {
	if r == nil || o == nil {
		return r == o
	}
	return r.bounds == o.bounds && r.failed == o.failed && bytes.Equal(r.waiting, o.waiting)
}
