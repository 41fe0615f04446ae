package ring_test

import (
	"bytes"
	"encoding/binary"
	"math/rand/v2"
	"slices"
	"strings"
	"testing"

	"replevin/api"
	"replevin/disk"
	"replevin/frame"
	"replevin/ring"
)

const large = int(^uint(0) >> 1)

// area is the range of a ring.
type area struct {
	d             *disk.Disk
	start, blocks int
}

func (a area) places() int { return a.blocks - 2 }

func (a area) block(place int) int { return a.start + 2 + place%a.places() }

// where is an entry with what the device says of it.
type where struct {
	ring.Entry
	stream, place, need int
}

// found is what the chapter's Terms find in a range.
type found struct {
	is                             bool
	generation, first, place, base int
	entries                        []where
}

func made(t *testing.T, blocks int) *disk.Disk {
	t.Helper()
	d, e := disk.New(blocks)
	must(t, "disk.New", e, api.OK)
	return d
}

// must fails if an operation has not the result that it should have.
func must(t *testing.T, what string, e, want api.Errno) {
	t.Helper()
	if e != want {
		t.Fatalf("%s = %d; want %d", what, e, want)
	}
}

func read(t *testing.T, d *disk.Disk, block int) string {
	t.Helper()
	b, e := d.Read(block)
	must(t, "Read", e, api.OK)
	return string(b)
}

// write makes the beginning of a block durable; the rest of it is 0.
func write(t *testing.T, d *disk.Disk, block int, s string) {
	t.Helper()
	b := make([]byte, disk.BlockSize)
	copy(b, s)
	must(t, "Write", d.Write(block, b), api.OK)
	must(t, "Flush", d.Flush(), api.OK)
}

func frameOf(t *testing.T, kind, stream, number int, payload string) string {
	t.Helper()
	s, e := frame.Encode(frame.Frame{Kind: kind, Stream: stream, Number: number, Payload: payload})
	must(t, "Encode", e, api.OK)
	return s
}

func headPayload(first, place, base int) string {
	b := binary.AppendUvarint(nil, uint64(first))
	b = binary.AppendUvarint(b, uint64(place))
	return string(binary.AppendUvarint(b, uint64(base)))
}

func headFrame(t *testing.T, generation, first, place, base int) string {
	t.Helper()
	return frameOf(t, 1, generation, 0, headPayload(first, place, base))
}

// lead makes a head durable, in the block for its generation.
func (a area) lead(t *testing.T, generation, first, place, base int) {
	t.Helper()
	write(t, a.d, a.start+generation%2, headFrame(t, generation, first, place, base))
}

// cut returns the blocks of a piece.
func cut(s string) []string {
	l := []string{s[:min(len(s), 512)]}
	for at := 512; at < len(s); at += 511 {
		l = append(l, "\x00"+s[at:min(at+511, len(s))])
	}
	for i := range l {
		l[i] += strings.Repeat("\x00", 512-len(l[i]))
	}
	return l
}

// put makes a frame durable at a place, and returns the place after it. The first bytes of its further blocks are not 0, as they do not matter.
func (a area) put(t *testing.T, place int, s string) int {
	t.Helper()
	for i, block := range cut(s) {
		if i > 0 {
			block = "\xf5" + block[1:]
		}
		write(t, a.d, a.block(place+i), block)
	}
	return (place + len(cut(s))) % a.places()
}

func (a area) body(t *testing.T, place, stream, number int, text string) int {
	t.Helper()
	return a.put(t, place, frameOf(t, 2, stream, number, text))
}

// piece returns the piece at a place with the blocks of all places.
func (a area) piece(t *testing.T, place int) string {
	t.Helper()
	var s strings.Builder
	s.WriteString(read(t, a.d, a.block(place)))
	for i := 1; i < a.places(); i++ {
		s.WriteString(read(t, a.d, a.block(place+i))[1:])
	}
	return s.String()
}

// head returns the numbers of a valid head.
func (a area) head(t *testing.T, number int) (h found) {
	t.Helper()
	f, _, e := frame.Decode(read(t, a.d, a.start+number))
	if e != api.OK || f.Kind != 1 || f.Number != 0 || f.Stream%2 != number {
		return found{}
	}
	rest := []byte(f.Payload)
	var numbers [3]int
	for i := range numbers {
		n, size := binary.Uvarint(rest)
		if size <= 0 || n > uint64(frame.MaxNumber) {
			return found{}
		}
		numbers[i], rest = int(n), rest[size:]
	}
	h = found{is: true, generation: f.Stream, first: numbers[0], place: numbers[1], base: numbers[2]}
	if headPayload(h.first, h.place, h.base) != f.Payload || h.place >= a.places() || h.base > h.generation {
		return found{}
	}
	return h
}

// find finds the current head and the entries.
func (a area) find(t *testing.T) found {
	t.Helper()
	h := a.head(t, 0)
	if o := a.head(t, 1); !h.is || o.is && o.generation > h.generation {
		h = o
	}
	if !h.is {
		return h
	}
	place, number, stream, left := h.place, h.first, h.base, a.places()
	for {
		f, size, e := frame.Decode(a.piece(t, place))
		need := 1
		for room := 512; room < size; room += 511 {
			need++
		}
		if e != api.OK || f.Kind != 2 || f.Number != number || f.Stream < stream || f.Stream > h.generation || need > left {
			return h
		}
		h.entries = append(h.entries, where{ring.Entry{Number: f.Number, Text: f.Payload}, f.Stream, place, need})
		place, number, stream, left = (place+need)%a.places(), number+1, f.Stream, left-need
	}
}

// model is what a ring should know and contain.
type model struct {
	area
	found
	synced int
}

func (m *model) next() int { return m.first + len(m.entries) }

func (m *model) free() int {
	n := m.places()
	for _, w := range m.entries {
		n -= w.need
	}
	return n
}

// end returns the place after the last entry.
func (m *model) end() int { return (m.place + m.places() - m.free()) % m.places() }

func (m *model) append(s string) (int, api.Errno) {
	need := len(cut(strings.Repeat("x", 42+len(s))))
	switch {
	case len(s) > 131072:
		return 0, api.ErrLong
	case need > m.free():
		return 0, api.ErrNoSpace
	}
	number := m.next()
	m.entries = append(m.entries, where{ring.Entry{Number: number, Text: s}, m.generation, m.end(), need})
	return number, api.OK
}

func (m *model) trim(before int) api.Errno {
	if before < m.first || before > m.next() {
		return api.ErrRange
	}
	if before == m.first {
		return api.OK
	}
	m.synced = m.next()
	for m.first < before {
		m.base, m.place = m.entries[0].stream, (m.place+m.entries[0].need)%m.places()
		m.entries = m.entries[1:]
		m.first++
	}
	m.generation++
	return api.OK
}

// opened returns the model of a ring that has been opened, after testing what Open has returned.
func opened(t *testing.T, a area) (*ring.Ring, *model) {
	t.Helper()
	want := a.find(t)
	r, l, e := ring.Open(a.d, a.start, a.blocks)
	must(t, "Open", e, api.OK)
	want.generation++
	m := &model{a, want, want.first + len(want.entries)}
	var texts []ring.Entry
	for _, w := range want.entries {
		texts = append(texts, w.Entry)
	}
	if !slices.Equal(l, texts) {
		t.Fatalf("Open returns %d entries; want %d", len(l), len(texts))
	}
	m.check(t, r)
	return r, m
}

// check tests what a ring says of itself, and what is on the device.
func (m *model) check(t *testing.T, r *ring.Ring) {
	t.Helper()
	m.values(t, r)
	must(t, "Failed", r.Failed(), api.OK)
	h := m.find(t)
	if !h.is || h.generation != m.generation || h.first != m.first || h.place != m.place || h.base != m.base || !slices.Equal(h.entries, m.entries) {
		t.Fatalf("the head has the generation %d, First %d, Place %d, Base %d, and leads to %d entries; want %d, %d, %d, %d, %d", h.generation, h.first, h.place, h.base, len(h.entries), m.generation, m.first, m.place, m.base, len(m.entries))
	}
}

func (m *model) values(t *testing.T, r *ring.Ring) {
	t.Helper()
	got := [5]int{r.First(), r.Next(), r.Synced(), r.Free(), r.Generation()}
	want := [5]int{m.first, m.next(), m.synced, m.free(), m.generation}
	if got != want {
		t.Fatalf("First, Next, Synced, Free, Generation = %v; want %v", got, want)
	}
}

// someText returns a text of a length that needs few blocks, or exactly some.
func someText(random *rand.Rand, places int) string {
	n := random.IntN(600)
	switch random.IntN(4) {
	case 0:
		n = 470 + 511*random.IntN(places+1) + random.IntN(3) - 1
	case 1:
		n = random.IntN(512 * (places + 1))
	}
	b := make([]byte, n)
	for i := range b {
		b[i] = [4]byte{0, 245, 2, byte(random.IntN(256))}[random.IntN(4)]
	}
	return string(b)
}

// guarded returns a range of a device whose other blocks are marked.
func guarded(t *testing.T, start, blocks, behind int) area {
	t.Helper()
	a := area{made(t, start+blocks+behind), start, blocks}
	for block := range a.d.Blocks() {
		if block < start || block >= start+blocks {
			write(t, a.d, block, strings.Repeat("\xab", 512))
		}
	}
	return a
}

// unharmed tests that the blocks outside a range are as they were.
func (a area) unharmed(t *testing.T) {
	t.Helper()
	for block := range a.d.Blocks() {
		if block >= a.start && block < a.start+a.blocks {
			continue
		}
		if b, e := a.d.Read(block); e != api.OK || !bytes.Equal(b, bytes.Repeat([]byte{0xab}, 512)) {
			t.Fatalf("block %d is another one", block)
		}
	}
}
