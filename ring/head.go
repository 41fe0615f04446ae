package ring

import (
	"replevin/api"
	"replevin/codec"
	"replevin/disk"
	"replevin/frame"
)

// head says where the entries of a ring begin.
type head struct {
	generation int
	first      int // the number of the oldest entry
	place      int // where it is
	base       int // the smallest stream that it may have
}

// encode returns the frame of a head.
func (h head) encode() string {
	w := codec.NewWriter()
	w.Number(h.first)
	w.Number(h.place)
	w.Number(h.base)
	// None of the numbers is negative, and the generation is that of a stream, so there are no errors.
	payload, _ := w.Bytes()
	s, _ := frame.Encode(frame.Frame{Kind: Head, Stream: h.generation, Payload: string(payload)})
	return s
}

// parseHead returns the head in the block with a number, and whether it is valid.
func parseHead(s string, number, places int) (h head, is bool) {
	f, _, e := frame.Decode(s)
	if e != api.OK || f.Kind != Head || f.Number != 0 || f.Stream%HeadBlocks != number {
		return head{}, false
	}
	r := codec.NewReader([]byte(f.Payload))
	h.generation = f.Stream
	h.first = r.Number(frame.MaxNumber)
	h.place = r.Number(places - 1)
	h.base = r.Number(f.Stream)
	if r.Close() != api.OK {
		return head{}, false
	}
	return h, true
}

// current returns the current head, and whether there is one.
func (c circle) current() (h head, is bool, e api.Errno) {
	for number := range HeadBlocks {
		b, e := c.device.Read(c.start + number)
		if e != api.OK {
			return head{}, false, e
		}
		o, valid := parseHead(string(b), number, c.places)
		if valid && (!is || o.generation > h.generation) {
			h, is = o, true
		}
	}
	return h, is, api.OK
}

// lead writes a head.
func (c circle) lead(h head) api.Errno {
	b := make([]byte, disk.BlockSize)
	copy(b, h.encode())
	if e := c.device.Write(c.start+h.generation%HeadBlocks, b); e != api.OK {
		return e
	}
	return c.device.Flush()
}

// unused returns the smallest number that is greater than the generations of all valid heads and the streams of all frames.
func (c circle) unused() (int, api.Errno) {
	h, is, e := c.current()
	if e != api.OK {
		return 0, e
	}
	number := 0
	if is {
		number = h.generation + 1
	}
	for place := range c.places {
		f, blocks, e := c.body(place, c.places)
		if e != api.OK {
			return 0, e
		}
		if blocks > 0 {
			number = max(number, f.Stream+1)
		}
	}
	return number, api.OK
}
