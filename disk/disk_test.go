package disk_test

import (
	"bytes"
	"math/rand/v2"
	"slices"
	"testing"

	"replevin/api"
	"replevin/disk"
)

const large = int(^uint(0) >> 1)

// P9.1
func TestNew(t *testing.T) {
	for _, blocks := range []int{1, 2, 7} {
		check(t, made(t, blocks), newModel(blocks))
	}
	d := made(t, disk.MaxBlocks)
	if b, e := d.Read(disk.MaxBlocks - 1); !bytes.Equal(b, filled(0)) || e != api.OK || d.Blocks() != 8192 {
		t.Errorf("Read = %v, %d", b, e)
	}
	must(t, "Write", d.Write(disk.MaxBlocks-1, filled(1)), api.OK)
	if l := slices.Collect(d.Used()); !slices.Equal(l, []int{disk.MaxBlocks - 1}) {
		t.Errorf("Used = %v", l)
	}
	for _, blocks := range []int{0, -1, -large - 1, disk.MaxBlocks + 1, large} {
		if d, e := disk.New(blocks); d != nil || e != api.ErrRange {
			t.Errorf("New(%d) = %d", blocks, e)
		}
	}
}

// P9.1: there is no limit.
func TestOperations(t *testing.T) {
	d := made(t, 2)
	for i := range 2000 {
		if i%50 == 49 {
			must(t, "Flush", d.Flush(), api.OK)
		} else {
			must(t, "Write", d.Write(i%2, filled(byte(i))), api.OK)
		}
		if d.Operations() != i+1 {
			t.Fatalf("Operations = %d after %d", d.Operations(), i+1)
		}
	}
	d.Write(2, filled(1))
	d.Write(0, nil)
	d.Read(0)
	d.Damage(0, 0, 1)
	d.Restart(nil)
	d.Fail()
	d.Flush()
	d.Write(0, filled(1))
	d.Restart(nil)
	if d.Operations() != 2000 {
		t.Errorf("Operations = %d", d.Operations())
	}
}

// P9.1 to P9.8
func TestRandomOperations(t *testing.T) {
	random := rand.New(rand.NewPCG(1, 9))
	for range 150 {
		blocks := 1 + random.IntN(4)
		d, m := made(t, blocks), newModel(blocks)
		for range 120 {
			act(t, random, d, m)
			check(t, d, m)
		}
	}
}

// P9.2, P9.3: the errors, and which of them comes first.
func TestErrors(t *testing.T) {
	full, short, long := filled(1), filled(1)[1:], append(filled(1), 1)
	type attempt struct {
		block int
		b     []byte
		want  api.Errno
	}
	attempts := []attempt{
		{-1, full, api.ErrNotFound}, {3, full, api.ErrNotFound}, {large, full, api.ErrNotFound}, {-large - 1, full, api.ErrNotFound}, {3, short, api.ErrNotFound}, {-1, nil, api.ErrNotFound},
		{0, short, api.ErrRange}, {2, long, api.ErrRange}, {1, nil, api.ErrRange}, {1, []byte{}, api.ErrRange},
	}
	d, same := made(t, 3), made(t, 3)
	for _, limit := range []int{-1, 5, 0} {
		d.SetLimit(limit)
		same.SetLimit(limit)
		for _, x := range attempts {
			must(t, "Write", d.Write(x.block, x.b), x.want)
			if !d.Equal(same) || d.Down() || d.Operations() != 0 {
				t.Fatalf("Write to %d with an error changes the device", x.block)
			}
		}
	}
	for _, block := range []int{-1, 3, large, -large - 1} {
		if b, e := d.Read(block); len(b) != 0 || e != api.ErrNotFound {
			t.Errorf("Read(%d) = %v, %d", block, b, e)
		}
	}
	d.SetLimit(-1)
	d.Fail()
	failed := d.Clone()
	for _, x := range append(attempts, attempt{0, full, 0}) {
		must(t, "Write", d.Write(x.block, x.b), api.ErrCrash)
		if b, e := d.Read(x.block); len(b) != 0 || e != api.ErrCrash {
			t.Errorf("Read(%d) = %v, %d", x.block, b, e)
		}
	}
	must(t, "Flush", d.Flush(), api.ErrCrash)
	if !d.Equal(failed) || d.Operations() != 0 {
		t.Error("operations after the power has failed change the device")
	}
}

// P9.3, P9.8: the bytes that were visible are durable after Flush, until the block is written again.
func TestFlush(t *testing.T) {
	d := made(t, 3)
	must(t, "Write", d.Write(0, filled(1)), api.OK)
	must(t, "Write", d.Write(1, filled(2)), api.OK)
	must(t, "Write", d.Write(0, filled(3)), api.OK)
	must(t, "Flush", d.Flush(), api.OK)
	if len(d.Pending()) != 0 {
		t.Error("writes are pending after Flush")
	}
	must(t, "Write", d.Write(1, filled(0)), api.OK)
	d.Fail()
	must(t, "Restart", d.Restart(nil), api.OK)
	for block, want := range []byte{3, 2, 0} {
		if b, e := d.Read(block); !bytes.Equal(b, filled(want)) || e != api.OK {
			t.Errorf("Read(%d) = %v, %d", block, b, e)
		}
	}
	// A block that becomes zero is like one that was never written.
	must(t, "Write", d.Write(0, filled(0)), api.OK)
	must(t, "Write", d.Write(1, filled(0)), api.OK)
	must(t, "Flush", d.Flush(), api.OK)
	if !d.Equal(made(t, 3)) || !made(t, 3).Equal(d) {
		t.Error("a device whose bytes are 0 again is not equal to a new one")
	}
}

// P9.3, P9.4, P9.8
func TestLimit(t *testing.T) {
	for limit := range 6 {
		for _, flush := range []bool{false, true} {
			d := made(t, 2)
			must(t, "Write", d.Write(1, filled(9)), api.OK)
			d.SetLimit(limit)
			for i := range limit {
				if flush {
					must(t, "Flush", d.Flush(), api.OK)
				} else {
					must(t, "Write", d.Write(0, filled(byte(i))), api.OK)
				}
			}
			if d.Down() || d.Operations() != 1+limit {
				t.Fatalf("Down = %t, Operations = %d after %d operations", d.Down(), d.Operations(), limit)
			}
			before := d.Clone()
			before.Fail()
			if flush {
				must(t, "Flush", d.Flush(), api.ErrCrash)
			} else {
				must(t, "Write", d.Write(0, filled(7)), api.ErrCrash)
			}
			if !d.Down() || d.Operations() != 1+limit || !d.Equal(before) {
				t.Fatalf("the operation after %d others changes the device", limit)
			}
		}
	}
}

// P9.4, P9.5
func TestSetLimit(t *testing.T) {
	d := made(t, 1)
	d.SetLimit(0)
	d.SetLimit(-large - 1)
	must(t, "Flush", d.Flush(), api.OK)
	d.SetLimit(1)
	d.SetLimit(2)
	must(t, "Flush", d.Flush(), api.OK)
	must(t, "Flush", d.Flush(), api.OK)
	must(t, "Flush", d.Flush(), api.ErrCrash)
	d.SetLimit(3)
	if !d.Down() {
		t.Error("SetLimit turns the power on")
	}
	must(t, "Restart", d.Restart(nil), api.OK)
	for range 10 {
		must(t, "Flush", d.Flush(), api.OK)
	}
	d.SetLimit(large)
	must(t, "Flush", d.Flush(), api.OK)
	if d.Down() {
		t.Error("the power has failed")
	}
}

// P9.7: what is iterated over is decided when the iteration begins, and each time anew.
func TestUsed(t *testing.T) {
	d := made(t, 5)
	used := d.Used()
	for _, block := range []int{4, 1, 3} {
		must(t, "Write", d.Write(block, filled(1)), api.OK)
	}
	must(t, "Flush", d.Flush(), api.OK)
	must(t, "Write", d.Write(3, filled(0)), api.OK)
	must(t, "Write", d.Write(0, filled(1)), api.OK)
	var l []int
	for block := range used {
		l = append(l, block)
		must(t, "Write", d.Write(2, filled(1)), api.OK)
		must(t, "Write", d.Write(4, filled(0)), api.OK)
	}
	if !slices.Equal(l, []int{0, 1, 4}) {
		t.Errorf("Used = %v", l)
	}
	l = nil
	for block := range used {
		l = append(l, block)
		d.Fail()
	}
	if !slices.Equal(l, []int{0, 1, 2}) {
		t.Errorf("Used = %v", l)
	}
	if l := slices.Collect(used); len(l) != 0 {
		t.Errorf("Used = %v after the power has failed", l)
	}
	must(t, "Restart", d.Restart(nil), api.OK)
	l = nil
	for block := range used {
		l = append(l, block)
		if block == 3 {
			break
		}
	}
	if !slices.Equal(l, []int{1, 3}) {
		t.Errorf("Used = %v up to 3", l)
	}
	last := filled(0)
	last[disk.BlockSize-1] = 1
	must(t, "Write", d.Write(2, last), api.OK)
	if l := slices.Collect(used); !slices.Equal(l, []int{1, 2, 3, 4}) {
		t.Errorf("Used = %v", l)
	}
}

// P9.7
func TestClone(t *testing.T) {
	random := rand.New(rand.NewPCG(2, 9))
	for range 100 {
		d, m := made(t, 3), newModel(3)
		for range random.IntN(20) {
			act(t, random, d, m)
		}
		c := d.Clone()
		check(t, c, m)
		if c == d || !c.Equal(d) || !d.Equal(c) {
			t.Fatal("a clone is not an equal copy")
		}
		other := *m
		other.durable = nil
		for _, b := range m.durable {
			other.durable = append(other.durable, bytes.Clone(b))
		}
		other.pending = nil
		for _, w := range m.pending {
			other.pending = append(other.pending, disk.Write{Block: w.Block, Bytes: bytes.Clone(w.Bytes)})
		}
		for range 15 {
			act(t, random, c, &other)
			check(t, d, m)
			check(t, c, &other)
			act(t, random, d, m)
			check(t, d, m)
			check(t, c, &other)
		}
	}
}

// P9.7
func TestEqual(t *testing.T) {
	write := func(block int, c byte) func(d *disk.Disk) { return func(d *disk.Disk) { d.Write(block, filled(c)) } }
	limit := func(n int) func(d *disk.Disk) { return func(d *disk.Disk) { d.SetLimit(n) } }
	flush, fail := func(d *disk.Disk) { d.Flush() }, func(d *disk.Disk) { d.Fail() }
	type steps = []func(d *disk.Disk)
	devices := []*disk.Disk{nil, made(t, 1), made(t, 3)}
	for _, l := range []steps{
		{write(0, 1)}, {write(0, 2)}, {write(1, 1)}, {write(0, 0)}, {write(0, 1), write(0, 1)}, {write(0, 1), write(1, 1)}, {write(1, 1), write(0, 1)},
		{write(0, 1), flush}, {write(0, 2), flush}, {write(1, 1), flush}, {write(0, 1), flush, write(0, 1)}, {write(0, 1), flush, write(0, 2)}, {write(0, 1), flush, write(1, 1)},
		{limit(0)}, {limit(1)}, {limit(2)}, {fail}, {fail, limit(0)}, {limit(1), fail}, {write(0, 1), fail}, {write(0, 1), flush, fail},
	} {
		d := made(t, 2)
		for _, step := range l {
			step(d)
		}
		devices = append(devices, d)
	}
	for i, a := range devices {
		for j, b := range devices {
			if a.Equal(b) != (i == j) {
				t.Errorf("Equal of the devices %d and %d = %t", i, j, a.Equal(b))
			}
		}
	}
	for i, l := range []steps{{flush}, {flush, flush}, {limit(4), limit(-1)}, {limit(4), limit(-3)}, {limit(0), flush, func(d *disk.Disk) { d.Restart(nil) }}, {write(0, 1), flush, write(0, 0), flush}, {write(0, 1), fail, func(d *disk.Disk) { d.Restart(nil) }}} {
		d := made(t, 2)
		for _, step := range l {
			step(d)
		}
		if !d.Equal(made(t, 2)) || !made(t, 2).Equal(d) {
			t.Errorf("%d: the device is not equal to a new one", i)
		}
	}
}

// P9.8
func TestResultsAreNew(t *testing.T) {
	d := made(t, 2)
	must(t, "Write", d.Write(0, filled(1)), api.OK)
	must(t, "Flush", d.Flush(), api.OK)
	must(t, "Write", d.Write(1, filled(2)), api.OK)
	must(t, "Write", d.Write(1, filled(3)), api.OK)
	same := d.Clone()
	for block := range 2 {
		b, _ := d.Read(block)
		clear(b)
	}
	l := d.Pending()
	clear(l[0].Bytes[:cap(l[0].Bytes)])
	if !bytes.Equal(l[1].Bytes, filled(3)) {
		t.Error("pending writes share memory")
	}
	clear(l[1].Bytes)
	l[0] = disk.Write{}
	if !d.Equal(same) {
		t.Error("results share memory with the device")
	}
	if b, e := d.Read(0); !bytes.Equal(b, filled(1)) || e != api.OK {
		t.Errorf("Read = %v, %d", b, e)
	}
}
