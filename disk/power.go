package disk

import "replevin/api"

// SetLimit lets the power fail after n more operations, Fail lets it fail at once, and Down reports whether it has failed.
func (d *Disk) SetLimit(n int) {
	if d == nil {
		return
	}
	d.limited, d.limit = n >= 0, max(n, 0)
}

func (d *Disk) Fail() {
	if d != nil {
		d.down = true
	}
}

func (d *Disk) Down() bool { return d != nil && d.down }

// Restart turns the power on again; the choices say what becomes of the pending writes.
func (d *Disk) Restart(choices []uint8) api.Errno {
	switch {
	case d == nil:
		return api.ErrArgument
	case !d.down:
		return api.ErrState
	}
	d.replay(func(i int) uint8 {
		if i < len(choices) {
			return choices[i]
		}
		return Lost
	})
	d.down = false
	d.SetLimit(-1)
	return api.OK
}

// replay applies the pending writes to the durable bytes, each one as the choice for its index says.
func (d *Disk) replay(choice func(i int) uint8) {
	fates := []func(old, written content, units int) content{
		Lost:  func(old, written content, units int) content { return old },
		Whole: func(old, written content, units int) content { return written },
		Torn: func(old, written content, units int) content {
			copy(old[:units*UnitSize], written[:])
			return old
		},
	}
	const counts = BlockSize/UnitSize + 1 // a write may be torn before each unit, and behind the last one
	for i, c := range d.pending {
		number := int(choice(i))
		fate, units := fates[number%len(fates)], number/len(fates)%counts
		d.keep(c.block, fate(d.durable[c.block], c.content, units))
	}
	d.pending = nil
	clear(d.last)
}

// keep gives a block durable bytes.
func (d *Disk) keep(block int, c content) {
	if c == (content{}) {
		delete(d.durable, block)
		return
	}
	d.durable[block] = c
}

// Damage changes a byte of a block.
func (d *Disk) Damage(block, at int, by byte) api.Errno {
	switch {
	case d == nil:
		return api.ErrArgument
	case !d.isBlock(block):
		return api.ErrNotFound
	case at < 0 || at >= BlockSize:
		return api.ErrRange
	}
	for i := range d.pending {
		if d.pending[i].block == block {
			d.pending[i].content[at] ^= by
		}
	}
	damaged := d.durable[block]
	damaged[at] ^= by
	d.keep(block, damaged)
	return api.OK
}
