package ring

import (
	"slices"

	"replevin/api"
	"replevin/frame"
)

// Append appends an entry and returns its number, Sync makes all entries durable, and Trim removes the entries before a number.
func (r *Ring) Append(s string) (int, api.Errno) {
	if e := r.Failed(); e != api.OK {
		return 0, e
	}
	blocks, e := Need(len(s))
	number := r.Next()
	switch {
	case e != api.OK:
		return 0, api.ErrLong
	case blocks > r.Free():
		return 0, api.ErrNoSpace
	case number > frame.MaxNumber:
		return 0, api.ErrLimit
	}
	text, e := frame.Encode(frame.Frame{Kind: Body, Stream: r.generation, Number: number, Payload: s})
	if e != api.OK {
		return 0, e
	}
	if e := r.attempt(func() api.Errno { return r.write(r.end(), text) }); e != api.OK {
		return 0, e
	}
	r.add(extent{r.generation, blocks})
	return number, api.OK
}

func (r *Ring) Sync() api.Errno {
	if e := r.Failed(); e != api.OK {
		return e
	}
	if e := r.attempt(r.device.Flush); e != api.OK {
		return e
	}
	r.synced = r.Next()
	return api.OK
}

func (r *Ring) Trim(before int) api.Errno {
	if e := r.Failed(); e != api.OK {
		return e
	}
	next := r.Next()
	switch {
	case before < r.first || before > next:
		return api.ErrRange
	case before == r.first:
		return api.OK
	case r.generation == frame.MaxStream:
		return api.ErrLimit
	}
	removed := r.entries[:before-r.first]
	passed := 0
	for _, x := range removed {
		passed += x.blocks
	}
	h := head{r.generation + 1, before, (r.place + passed) % r.places, removed[len(removed)-1].stream}
	if e := r.attempt(func() api.Errno { return r.lead(h) }); e != api.OK {
		return e
	}
	r.head, r.used, r.synced = h, r.used-passed, next
	r.entries = slices.Delete(r.entries, 0, len(removed))
	return api.OK
}

// attempt performs an operation with the device, whose error marks the ring as failed.
func (r *Ring) attempt(operation func() api.Errno) (e api.Errno) {
	defer func() { r.failed = e }()
	return operation()
}
