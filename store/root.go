package store

import (
	"replevin/api"
	"replevin/codec"
	"replevin/disk"
	"replevin/frame"
)

// Two blocks have the roots of even and of odd generations, so that one of them stays while the other one is written.
const (
	rootBlocks = 2
	rootKind   = 14
)

// root is the root of a generation: its number, and the block of the root of its tree.
type root struct{ generation, block int }

// bytes returns the bytes of the block of a root, in the range from a block on.
func (r root) bytes(first int) ([]byte, api.Errno) {
	w := codec.NewWriter()
	w.Signed(r.block)
	payload, e := w.Bytes()
	if e != api.OK {
		return nil, e
	}
	s, e := frame.Encode(frame.Frame{Kind: rootKind, Stream: first, Number: r.generation, Payload: string(payload)})
	if e != api.OK {
		return nil, e
	}
	b := make([]byte, disk.BlockSize)
	copy(b, s)
	return b, api.OK
}

// write writes the root to its block.
func (r root) write(d *disk.Disk, first int) api.Errno {
	b, e := r.bytes(first)
	if e != api.OK {
		return e
	}
	return d.Write(first+r.generation%rootBlocks, b)
}

// read returns the root in a root block, and whether the block is valid.
func read(b []byte, first, index int) (root, bool) {
	f, _, e := frame.Decode(string(b))
	if e != api.OK || f.Number%rootBlocks != index {
		return root{}, false
	}
	payload := codec.NewReader([]byte(f.Payload))
	r := root{f.Number, payload.Signed()}
	// Whatever else is not as it should be, the root would have other bytes.
	same, e := r.bytes(first)
	return r, e == api.OK && string(same) == string(b)
}

// latest returns the valid root with the greater generation.
func latest(d *disk.Disk, first int) (root, api.Errno) {
	var roots [rootBlocks]root
	var valid [rootBlocks]bool
	for i := range roots {
		b, e := d.Read(first + i)
		if e != api.OK {
			return root{}, e
		}
		roots[i], valid[i] = read(b, first, i)
	}
	switch {
	case valid == [rootBlocks]bool{}:
		return root{}, api.ErrFormat
	case !valid[0] || valid[1] && roots[1].generation > roots[0].generation:
		return roots[1], api.OK
	}
	return roots[0], api.OK
}
