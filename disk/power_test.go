package disk_test

import (
	"bytes"
	"slices"
	"testing"

	"replevin/api"
	"replevin/disk"
)

// P9.5
func TestEveryChoice(t *testing.T) {
	for choice := range 256 {
		d := made(t, 4)
		must(t, "Write", d.Write(2, filled(3)), api.OK)
		must(t, "Flush", d.Flush(), api.OK)
		must(t, "Write", d.Write(2, filled(7)), api.OK)
		d.Fail()
		must(t, "Restart", d.Restart([]uint8{uint8(choice)}), api.OK)
		applied := 0
		switch choice % 3 {
		case disk.Whole:
			applied = disk.BlockSize
		case disk.Torn:
			applied = choice / 3 % 17 * disk.UnitSize
		}
		want := append(filled(7)[:applied], filled(3)[applied:]...)
		if b, e := d.Read(2); !bytes.Equal(b, want) || e != api.OK {
			t.Errorf("choice %d: Read = %v, %d", choice, b, e)
		}
		if len(d.Pending()) != 0 || d.Down() {
			t.Errorf("choice %d: %d writes are pending, Down = %t", choice, len(d.Pending()), d.Down())
		}
		d.Fail()
		must(t, "Restart", d.Restart(nil), api.OK)
		if b, e := d.Read(2); !bytes.Equal(b, want) || e != api.OK {
			t.Errorf("choice %d: what was applied is not durable", choice)
		}
	}
}

// P9.5: writes of the same block are applied one after the other.
func TestChoicesInOrder(t *testing.T) {
	const torn = 3*4 + disk.Torn // the first four units
	mixed := func(first, then byte) []byte {
		return append(filled(first)[:4*disk.UnitSize], filled(then)[4*disk.UnitSize:]...)
	}
	for i, x := range []struct {
		choices []uint8
		want    []byte
		other   byte
	}{
		{nil, filled(9), 0}, {[]uint8{0, 0, 0, 0}, filled(9), 0}, {[]uint8{1}, filled(1), 0}, {[]uint8{0, 1}, filled(2), 0}, {[]uint8{1, 1, 1}, filled(2), 3}, {[]uint8{1, 0, 1, 0, 1, 1}, filled(1), 3},
		{[]uint8{0, 0, 0, 1}, filled(4), 0}, {[]uint8{1, torn}, mixed(2, 1), 0}, {[]uint8{torn, 0, 0, 0}, mixed(1, 9), 0}, {[]uint8{torn, 1}, filled(2), 0}, {[]uint8{1, 1, 0, torn}, mixed(4, 2), 0}, {[]uint8{0, 0, 0, 0, 1}, filled(9), 0},
	} {
		d := made(t, 2)
		must(t, "Write", d.Write(1, filled(9)), api.OK)
		must(t, "Flush", d.Flush(), api.OK)
		for c, block := range []int{1, 1, 0, 1} {
			must(t, "Write", d.Write(block, filled(byte(c+1))), api.OK)
		}
		d.Fail()
		must(t, "Restart", d.Restart(x.choices), api.OK)
		if b, e := d.Read(1); !bytes.Equal(b, x.want) || e != api.OK {
			t.Errorf("%d: Read(1) = %v, %d", i, b, e)
		}
		if b, e := d.Read(0); !bytes.Equal(b, filled(x.other)) || e != api.OK {
			t.Errorf("%d: Read(0) = %v, %d", i, b, e)
		}
	}
}

// P9.5
func TestRestart(t *testing.T) {
	d := made(t, 2)
	must(t, "Write", d.Write(0, filled(1)), api.OK)
	d.SetLimit(5)
	same := d.Clone()
	for _, choices := range [][]uint8{nil, {1}} {
		must(t, "Restart", d.Restart(choices), api.ErrState)
		if !d.Equal(same) {
			t.Fatal("Restart while the power is on changes the device")
		}
	}
	d.Fail()
	must(t, "Restart", d.Restart([]uint8{1, 1, 1}), api.OK)
	must(t, "Restart", d.Restart([]uint8{1, 1, 1}), api.ErrState)
	for range 10 {
		must(t, "Flush", d.Flush(), api.OK)
	}
	if b, e := d.Read(0); !bytes.Equal(b, filled(1)) || e != api.OK || d.Operations() != 11 {
		t.Errorf("Read = %v, %d, Operations = %d", b, e, d.Operations())
	}
}

// P9.8: without torn writes, a block has its durable bytes or those of a pending write.
func TestWithoutTornWrites(t *testing.T) {
	for choices := range 1 << 4 {
		d := made(t, 1)
		must(t, "Write", d.Write(0, filled(9)), api.OK)
		must(t, "Flush", d.Flush(), api.OK)
		var l []uint8
		want := filled(9)
		for i := range 4 {
			must(t, "Write", d.Write(0, filled(byte(i))), api.OK)
			choice := uint8(choices >> i & 1)
			if choice == disk.Whole {
				want = filled(byte(i))
			}
			l = append(l, choice+3*uint8(i))
		}
		d.Fail()
		must(t, "Restart", d.Restart(l), api.OK)
		if b, e := d.Read(0); !bytes.Equal(b, want) || e != api.OK {
			t.Errorf("%v: Read = %v, %d", l, b, e)
		}
	}
}

// P9.4
func TestFail(t *testing.T) {
	d := made(t, 2)
	must(t, "Write", d.Write(1, filled(4)), api.OK)
	if d.Down() {
		t.Error("the power has failed")
	}
	for range 2 {
		d.Fail()
		if !d.Down() {
			t.Error("the power is on")
		}
	}
	if l := d.Pending(); len(l) != 1 || l[0].Block != 1 || !bytes.Equal(l[0].Bytes, filled(4)) {
		t.Errorf("Pending = %v", l)
	}
	if l := slices.Collect(d.Used()); len(l) != 0 {
		t.Errorf("Used = %v", l)
	}
}

// P9.6
func TestDamage(t *testing.T) {
	d := made(t, 2)
	must(t, "Write", d.Write(0, filled(1)), api.OK)
	must(t, "Flush", d.Flush(), api.OK)
	must(t, "Write", d.Write(0, filled(2)), api.OK)
	must(t, "Write", d.Write(1, filled(2)), api.OK)
	must(t, "Write", d.Write(0, filled(4)), api.OK)
	must(t, "Damage", d.Damage(0, 511, 255), api.OK)
	d.SetLimit(0)
	must(t, "Damage", d.Damage(0, 0, 8), api.OK)
	d.Fail()
	must(t, "Damage", d.Damage(0, 3, 7), api.OK)
	must(t, "Damage", d.Damage(0, 3, 7), api.OK)
	must(t, "Damage", d.Damage(0, 4, 0), api.OK)
	if d.Operations() != 5 || !d.Down() {
		t.Errorf("Operations = %d, Down = %t", d.Operations(), d.Down())
	}
	damaged := func(c byte) []byte {
		b := filled(c)
		b[0], b[511] = c^8, c^255
		return b
	}
	for i, want := range [][]byte{damaged(2), filled(2), damaged(4)} {
		if l := d.Pending(); len(l) != 3 || !bytes.Equal(l[i].Bytes, want) {
			t.Errorf("the pending write %d is %v", i, l[i].Bytes)
		}
	}
	must(t, "Restart", d.Restart(nil), api.OK)
	if b, e := d.Read(0); !bytes.Equal(b, damaged(1)) || e != api.OK {
		t.Errorf("Read = %v, %d", b, e)
	}
	if b, e := d.Read(1); !bytes.Equal(b, filled(0)) || e != api.OK {
		t.Errorf("Read = %v, %d", b, e)
	}
	// A block that was never written can be damaged, and the damage can be undone.
	must(t, "Damage", d.Damage(1, 5, 16), api.OK)
	if l := slices.Collect(d.Used()); !slices.Equal(l, []int{0, 1}) {
		t.Errorf("Used = %v", l)
	}
	must(t, "Damage", d.Damage(1, 5, 16), api.OK)
	if l := slices.Collect(d.Used()); !slices.Equal(l, []int{0}) {
		t.Errorf("Used = %v", l)
	}
}

// P9.6
func TestErrorsOfDamage(t *testing.T) {
	d := made(t, 3)
	must(t, "Write", d.Write(0, filled(1)), api.OK)
	same := d.Clone()
	for range 2 {
		for _, x := range []struct {
			block, at int
			want      api.Errno
		}{
			{-1, 0, api.ErrNotFound}, {3, 0, api.ErrNotFound}, {large, -1, api.ErrNotFound}, {-large - 1, 512, api.ErrNotFound},
			{0, -1, api.ErrRange}, {2, 512, api.ErrRange}, {0, large, api.ErrRange}, {1, -large - 1, api.ErrRange},
		} {
			must(t, "Damage", d.Damage(x.block, x.at, 1), x.want)
			if !d.Equal(same) {
				t.Fatalf("Damage of %d at %d changes the device", x.block, x.at)
			}
		}
		d.Fail()
		same.Fail()
	}
}

// P9.1 to P9.7
func TestNil(t *testing.T) {
	var d *disk.Disk
	if b, e := d.Read(0); len(b) != 0 || e != api.ErrArgument {
		t.Errorf("Read = %v, %d", b, e)
	}
	must(t, "Write", d.Write(0, filled(1)), api.ErrArgument)
	must(t, "Write", d.Write(-1, nil), api.ErrArgument)
	must(t, "Flush", d.Flush(), api.ErrArgument)
	must(t, "Restart", d.Restart(nil), api.ErrArgument)
	must(t, "Damage", d.Damage(-1, -1, 1), api.ErrArgument)
	d.SetLimit(3)
	d.Fail()
	if d.Blocks() != 0 || d.Operations() != 0 || len(d.Pending()) != 0 || d.Down() || d.Clone() != nil || !d.Equal(nil) {
		t.Error("values of nil")
	}
	if l := slices.Collect(d.Used()); len(l) != 0 {
		t.Errorf("Used = %v", l)
	}
}

// P1: the zero value, which New does not return, is a device without blocks.
func TestZero(t *testing.T) {
	var d disk.Disk
	must(t, "Write", d.Write(0, filled(1)), api.ErrNotFound)
	must(t, "Damage", d.Damage(0, 0, 1), api.ErrNotFound)
	must(t, "Flush", d.Flush(), api.OK)
	if b, e := d.Read(0); len(b) != 0 || e != api.ErrNotFound {
		t.Errorf("Read = %v, %d", b, e)
	}
	d.Fail()
	must(t, "Restart", d.Restart([]uint8{1}), api.OK)
	if d.Blocks() != 0 || d.Operations() != 1 || len(slices.Collect(d.Used())) != 0 || !d.Equal(d.Clone()) {
		t.Error("values of the zero value")
	}
}
