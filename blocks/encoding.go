package blocks

import (
	"replevin/api"
	"replevin/codec"
)

// Encode returns the encoding of the blocks that are in use now, and Decode a range in which they are kept.
func (m *Map) Encode() string {
	if m == nil {
		return ""
	}
	bits := make([]byte, size(len(m.states)))
	for i := range m.in(0, Kept, Fresh) {
		bits[i/8] |= 1 << (i % 8)
	}
	w := codec.NewWriter()
	w.Number(m.first)
	w.Number(len(m.states))
	w.Text(string(bits))
	// The numbers are not negative, and the text is short, so there is no error.
	b, _ := w.Bytes()
	return string(b)
}

func Decode(s string) (*Map, api.Errno) {
	r := codec.NewReader([]byte(s))
	first, count, bits := r.Number(maxFirst), r.Number(MaxCount), r.Text(size(MaxCount))
	m, e := New(first, count)
	if r.Close() != api.OK || e != api.OK || len(bits) != size(count) {
		return nil, api.ErrFormat
	}
	for i := range 8 * len(bits) {
		switch {
		case bits[i/8]>>(i%8)&1 == 0:
		case i >= count:
			return nil, api.ErrFormat
		default:
			m.set(i, Kept)
		}
	}
	return m, api.OK
}

// size returns the number of bytes with a bit for each block.
func size(count int) int { return (count + 7) / 8 }
