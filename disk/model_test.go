package disk_test

import (
	"bytes"
	"math/rand/v2"
	"slices"
	"testing"

	"replevin/api"
	"replevin/disk"
)

// The model of a device keeps the durable bytes of all blocks, and finds visible bytes by replaying all pending writes.
type model struct {
	durable    [][]byte
	pending    []disk.Write
	limit      int // -1 if there is none
	down       bool
	operations int
}

func newModel(blocks int) *model {
	m := &model{limit: -1}
	for range blocks {
		m.durable = append(m.durable, make([]byte, disk.BlockSize))
	}
	return m
}

func (m *model) visible(block int) []byte {
	b := m.durable[block]
	for _, w := range m.pending {
		if w.Block == block {
			b = w.Bytes
		}
	}
	return b
}

func (m *model) operation() api.Errno {
	if m.limit == 0 {
		m.down = true
		return api.ErrCrash
	}
	if m.limit > 0 {
		m.limit--
	}
	m.operations++
	return api.OK
}

func (m *model) write(block int, b []byte) api.Errno {
	switch {
	case m.down:
		return api.ErrCrash
	case block < 0 || block >= len(m.durable):
		return api.ErrNotFound
	case len(b) != disk.BlockSize:
		return api.ErrRange
	}
	e := m.operation()
	if e == api.OK {
		m.pending = append(m.pending, disk.Write{Block: block, Bytes: bytes.Clone(b)})
	}
	return e
}

func (m *model) flush() api.Errno {
	if m.down {
		return api.ErrCrash
	}
	e := m.operation()
	if e == api.OK {
		for block := range m.durable {
			m.durable[block] = bytes.Clone(m.visible(block))
		}
		m.pending = nil
	}
	return e
}

func (m *model) restart(choices []uint8) api.Errno {
	if !m.down {
		return api.ErrState
	}
	for i, w := range m.pending {
		choice := 0
		if i < len(choices) {
			choice = int(choices[i])
		}
		switch choice % 3 {
		case disk.Whole:
			copy(m.durable[w.Block], w.Bytes)
		case disk.Torn:
			for at := range choice / 3 % 17 * 32 {
				m.durable[w.Block][at] = w.Bytes[at]
			}
		}
	}
	m.pending, m.down, m.limit = nil, false, -1
	return api.OK
}

func (m *model) damage(block, at int, by byte) api.Errno {
	switch {
	case block < 0 || block >= len(m.durable):
		return api.ErrNotFound
	case at < 0 || at >= disk.BlockSize:
		return api.ErrRange
	}
	m.durable[block][at] ^= by
	for _, w := range m.pending {
		if w.Block == block {
			w.Bytes[at] ^= by
		}
	}
	return api.OK
}

func (m *model) used() []int {
	var l []int
	for block := range m.durable {
		if !m.down && !bytes.Equal(m.visible(block), filled(0)) {
			l = append(l, block)
		}
	}
	return l
}

func filled(c byte) []byte { return bytes.Repeat([]byte{c}, disk.BlockSize) }

func made(t *testing.T, blocks int) *disk.Disk {
	t.Helper()
	d, e := disk.New(blocks)
	if e != api.OK || d == nil {
		t.Fatalf("New(%d) = %d", blocks, e)
	}
	return d
}

// must fails if an operation has not the result that it should have.
func must(t *testing.T, what string, e, want api.Errno) {
	t.Helper()
	if e != want {
		t.Fatalf("%s = %d; want %d", what, e, want)
	}
}

// check tests what a device says of itself.
func check(t *testing.T, d *disk.Disk, m *model) {
	t.Helper()
	if d.Blocks() != len(m.durable) || d.Operations() != m.operations || d.Down() != m.down {
		t.Fatalf("Blocks = %d, Operations = %d, Down = %t; want %d, %d, %t", d.Blocks(), d.Operations(), d.Down(), len(m.durable), m.operations, m.down)
	}
	if l := d.Pending(); !slices.EqualFunc(l, m.pending, func(a, b disk.Write) bool { return a.Block == b.Block && bytes.Equal(a.Bytes, b.Bytes) }) {
		t.Fatalf("Pending has %d writes; want %d", len(l), len(m.pending))
	}
	if l := slices.Collect(d.Used()); !slices.Equal(l, m.used()) {
		t.Fatalf("Used = %v; want %v", l, m.used())
	}
	for block := -1; block <= len(m.durable); block++ {
		var want []byte
		e := api.ErrCrash
		if !m.down {
			e = api.ErrNotFound
			if block >= 0 && block < len(m.durable) {
				want, e = m.visible(block), api.OK
			}
		}
		if b, got := d.Read(block); !bytes.Equal(b, want) || got != e {
			t.Fatalf("Read(%d) = %v, %d; want %v, %d", block, b, got, want, e)
		}
	}
}

// someBytes returns bytes for a block, which are often all 0, and sometimes not as many as they should be.
func someBytes(random *rand.Rand) []byte {
	switch random.IntN(12) {
	case 0:
		return make([]byte, disk.BlockSize-1+2*random.IntN(2))
	case 1, 2, 3:
		return filled(0)
	case 4, 5:
		return filled(byte(random.IntN(256)))
	}
	b := make([]byte, disk.BlockSize)
	for i := range b {
		b[i] = byte(random.IntN(256))
	}
	return b
}

// act does the same with a device and with its model.
func act(t *testing.T, random *rand.Rand, d *disk.Disk, m *model) {
	t.Helper()
	block := random.IntN(len(m.durable)+2) - 1
	switch random.IntN(16) {
	case 0:
		must(t, "Flush", d.Flush(), m.flush())
	case 1:
		at, by := random.IntN(disk.BlockSize+2)-1, byte(random.IntN(3))
		must(t, "Damage", d.Damage(block, at, by), m.damage(block, at, by))
	case 2:
		m.limit = random.IntN(8) - 1
		d.SetLimit(m.limit)
	case 3:
		if random.IntN(3) == 0 {
			m.down = true
			d.Fail()
		}
	case 4, 5:
		choices := make([]uint8, random.IntN(len(m.pending)+3))
		for i := range choices {
			choices[i] = uint8(random.IntN(256))
		}
		given := slices.Clone(choices)
		must(t, "Restart", d.Restart(choices), m.restart(choices))
		if !slices.Equal(choices, given) {
			t.Fatal("Restart changes its argument")
		}
	default:
		b := someBytes(random)
		given := bytes.Clone(b)
		e := m.write(block, b)
		must(t, "Write", d.Write(block, b), e)
		if !bytes.Equal(b, given) {
			t.Fatal("Write changes its argument")
		}
		for i := range b {
			b[i]++ // the device must not have retained it
		}
	}
}
