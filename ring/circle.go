package ring

import (
	"iter"

	"replevin/api"
	"replevin/disk"
	"replevin/frame"
)

// share is the number of bytes that a block has of a piece, beside its first byte.
const share = disk.BlockSize - 1

// circle is the range of blocks that a ring occupies: the heads from the block start on, and behind them the places.
type circle struct {
	device *disk.Disk
	start  int
	places int
}

// newCircle returns the circle in a range of blocks of a device whose power is on.
func newCircle(d *disk.Disk, first, blocks int) (circle, api.Errno) {
	switch {
	case d == nil:
		return circle{}, api.ErrArgument
	case first < 0 || blocks < MinBlocks || blocks > d.Blocks()-first:
		return circle{}, api.ErrRange
	case d.Down():
		return circle{}, api.ErrCrash
	}
	return circle{d, first, blocks - HeadBlocks}, api.OK
}

// block returns the block of a place; the places are counted on round the circle.
func (c circle) block(place int) int { return c.start + HeadBlocks + place%c.places }

// blocks yields the blocks of successive places, from a place on.
func (c circle) blocks(place, count int) iter.Seq[int] {
	return func(yield func(int) bool) {
		for i := range count {
			if !yield(c.block(place + i)) {
				return
			}
		}
	}
}

// span returns the number of blocks of a piece that begins with a frame of a size.
func span(size int) int { return (size - 1 + share - 1) / share }

// write writes the bytes of a frame at a place.
func (c circle) write(place int, s string) api.Errno {
	front, rest := s[0], s[1:]
	for block := range c.blocks(place, span(len(s))) {
		b := make([]byte, disk.BlockSize)
		b[0] = front
		length := copy(b[1:], rest)
		front, rest = 0, rest[length:]
		if e := c.device.Write(block, b); e != api.OK {
			return e
		}
	}
	return api.OK
}

// erase writes zero bytes at a place.
func (c circle) erase(place int) api.Errno {
	return c.device.Write(c.block(place), make([]byte, disk.BlockSize))
}

// piece returns the piece with a number of blocks at a place.
func (c circle) piece(place, count int) (string, api.Errno) {
	var b []byte
	for block := range c.blocks(place, count) {
		next, e := c.device.Read(block)
		if e != api.OK {
			return "", e
		}
		if len(b) > 0 {
			next = next[1:]
		}
		b = append(b, next...)
	}
	return string(b), api.OK
}

// body returns the frame of the kind Body with which a piece of at most some blocks begins, and the number of its blocks, which is 0 if there is no such frame.
//
// The blocks are read in ever greater numbers, since their number is not known before, and most frames are short.
func (c circle) body(place, most int) (f frame.Frame, blocks int, e api.Errno) {
	for count := 1; ; count = min(2*count, most) {
		s, e := c.piece(place, count)
		if e != api.OK {
			return frame.Frame{}, 0, e
		}
		f, size, why := frame.Decode(s)
		switch {
		case why == api.OK && f.Kind == Body:
			return f, span(size), api.OK
		case why != api.ErrTruncated || count == most:
			return frame.Frame{}, 0, api.OK
		}
	}
}
