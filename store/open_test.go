package store_test

import (
	"encoding/binary"
	"math/rand/v2"
	"slices"
	"strings"
	"testing"

	"replevin/api"
	"replevin/blocks"
	"replevin/btree"
	"replevin/disk"
	"replevin/frame"
	"replevin/store"
)

// rootOf returns the block of the root of the tree of a generation.
func rootOf(t *testing.T, d *disk.Disk, first, generation int) int {
	t.Helper()
	f, _, e := frame.Decode(read(t, d, first+generation%2))
	must(t, "Decode", e, api.OK)
	root, size := binary.Varint([]byte(f.Payload))
	if size != len(f.Payload) {
		t.Fatalf("payload %q", f.Payload)
	}
	return int(root)
}

// treeOf returns the tree of a generation, for a range in which all blocks are in use.
func treeOf(t *testing.T, d *disk.Disk, first, count, generation int) *btree.Tree {
	t.Helper()
	var all []int
	for block := first + 2; block < first+count; block++ {
		all = append(all, block)
	}
	m, e := blocks.Load(first+2, count-2, all)
	must(t, "blocks.Load", e, api.OK)
	x, e := btree.Load(d, m, rootOf(t, d, first, generation))
	must(t, "btree.Load", e, api.OK)
	return x
}

// entries returns the entries of the tree of a generation.
func entries(t *testing.T, d *disk.Disk, first, count, generation int) []btree.Item {
	t.Helper()
	l, e := treeOf(t, d, first, count, generation).Range("", "", large)
	must(t, "Range", e, api.OK)
	return l
}

func size(n int) string { return string(binary.AppendUvarint(nil, uint64(n))) }

// planted returns a device with a store in the range from block 3 on, whose tree has given entries.
func planted(t *testing.T, l []btree.Item) *disk.Disk {
	t.Helper()
	d := device(t, 600)
	formatted(t, d, 3, 590)
	m, e := blocks.New(5, 588)
	must(t, "blocks.New", e, api.OK)
	x, e := btree.New(d, m)
	must(t, "btree.New", e, api.OK)
	for _, entry := range l {
		must(t, "Put", x.Put(entry.Key, entry.Value), api.OK)
	}
	write(t, d, 4, rootBytes(t, 14, 3, 1, signed(x.Root())))
	return d
}

// P14.2: which blocks are valid, and which of them counts.
func TestRootBlocks(t *testing.T) {
	d := device(t, 30)
	s := formatted(t, d, 5, 20)
	must(t, "Put", s.Put("a", "1"), api.OK)
	must(t, "Commit", s.Commit(), api.OK)
	root := rootOf(t, d, 5, 1)
	good := func(number int) string { return rootBytes(t, 14, 5, number, signed(root)) }
	none := rootBytes(t, 14, 5, 2, signed(-1))
	zero := strings.Repeat("\x00", disk.BlockSize)
	damaged := func(s string, at int) string { return s[:at] + string([]byte{s[at] ^ 1}) + s[at+1:] }
	invalid := []string{
		zero, strings.Repeat("x", disk.BlockSize), good(2)[1:] + "\x00", rootBytes(t, 13, 5, 2, signed(root)), rootBytes(t, 14, 6, 2, signed(root)), rootBytes(t, 14, 0, 2, signed(root)), rootBytes(t, 14, 5, 1, signed(root)), rootBytes(t, 14, 5, 3, signed(root)), rootBytes(t, 14, 5, 2, ""), rootBytes(t, 14, 5, 2, signed(root)+"\x00"), rootBytes(t, 14, 5, 2, "\x80"), rootBytes(t, 14, 5, 2, "\x8e\x00"),
		rootBytes(t, 14, 5, 2, strings.Repeat("\xff", 10)), good(2)[:511] + "\x01", damaged(good(2), 43), damaged(good(2), 0), damaged(good(2), 26), damaged(good(2), 511), rootBytes(t, 14, 5, 2, strings.Repeat("\x00", 400)),
	}
	for i, b := range invalid {
		write(t, d, 5, b)
		write(t, d, 6, good(1))
		if o := opened(t, d, 5, 20); o.Generation() != 1 {
			t.Errorf("%d: generation %d", i, o.Generation())
		} else {
			check(t, o, model{"a": "1"})
		}
		write(t, d, 6, zero)
		if o, e := store.Open(d, 5, 20); o != nil || e != api.ErrFormat {
			t.Errorf("%d: Open = %d", i, e)
		}
	}
	for _, c := range []struct {
		even, odd  string
		generation int
		want       model
	}{
		{good(2), good(1), 2, model{"a": "1"}}, {good(0), good(1), 1, model{"a": "1"}}, {none, good(1), 2, model{}}, {none, good(3), 3, model{"a": "1"}}, {good(8), rootBytes(t, 14, 5, 5, signed(-1)), 8, model{"a": "1"}}, {good(2), good(2), 2, model{"a": "1"}}, {good(1), good(1), 1, model{"a": "1"}}, {zero, good(1<<40 - 1), 1<<40 - 1, model{"a": "1"}},
	} {
		write(t, d, 5, c.even)
		write(t, d, 6, c.odd)
		o := opened(t, d, 5, 20)
		if o.Generation() != c.generation {
			t.Errorf("generation %d; want %d", o.Generation(), c.generation)
		}
		check(t, o, c.want)
	}
}

// P14.2: the errors of the tree. The root of the generation before does not count.
func TestOpenErrors(t *testing.T) {
	d := device(t, 60)
	s := formatted(t, d, 5, 50)
	for i := range 10 {
		must(t, "Put", s.Put(string([]byte{byte('a' + i)}), text(300)), api.OK)
	}
	must(t, "Commit", s.Commit(), api.OK)
	before := d.Clone()
	operations := d.Operations()
	opened(t, d, 5, 50)
	if !d.Equal(before) || d.Operations() != operations {
		t.Error("Open writes")
	}
	for _, root := range []int{-2, 0, 4, 5, 6, 55, 59, 60, 1 << 30, large, -large - 1} {
		write(t, d, 6, rootBytes(t, 14, 5, 1, signed(root)))
		if o, e := store.Open(d, 5, 50); o != nil || e != api.ErrRange {
			t.Errorf("Open with the root %d = %d", root, e)
		}
	}
	write(t, d, 6, rootBytes(t, 14, 5, 1, signed(54)))
	_, e := store.Open(d, 5, 50)
	must(t, "Open with a root in a block of zero bytes", e, api.ErrChecksum)
	d = before
	own, e := treeOf(t, d, 5, 50, 1).Blocks()
	must(t, "Blocks", e, api.OK)
	// A range in which the root is not.
	if o, e := store.Open(d, 5, rootOf(t, d, 5, 1)-5); o != nil || e != api.ErrRange {
		t.Errorf("Open without the root = %d", e)
	}
	opened(t, d, 5, slices.Max(own)+1-5)
}

// P14.2: a child outside the range is not read.
func TestOpenOutside(t *testing.T) {
	d := device(t, 80)
	formatted(t, d, 0, 20)
	m, e := blocks.New(2, 70)
	must(t, "blocks.New", e, api.OK)
	for range 18 {
		m.Take()
	}
	x, e := btree.New(d, m)
	must(t, "btree.New", e, api.OK)
	put := func(i int) {
		must(t, "Put", x.Put(string([]byte{byte('a' + i), 0, 0, 0}), size(300)+text(300)), api.OK)
	}
	for i := range 9 {
		put(i)
	}
	// Two blocks of the range are free for the two nodes that Put replaces.
	must(t, "Give", m.Give(5), api.OK)
	must(t, "Give", m.Give(6), api.OK)
	put(4)
	height, e := x.Height()
	if x.Root() != 5 && x.Root() != 6 || height != 2 || e != api.OK {
		t.Fatalf("the root is in block %d", x.Root())
	}
	write(t, d, 1, rootBytes(t, 14, 0, 1, signed(x.Root())))
	own, e := x.Blocks()
	must(t, "Blocks", e, api.OK)
	for _, block := range own {
		if block >= 20 {
			d.Damage(block, 0, 1)
		}
	}
	if s, e := store.Open(d, 0, 20); s != nil || e != api.ErrFormat {
		t.Errorf("Open = %d", e)
	}
}

// P14.2: the entries of the tree have to be parts of entries.
func TestWhole(t *testing.T) {
	part := func(key string, i int, value string) btree.Item {
		return btree.Item{Key: key + "\x00" + string([]byte{byte(i >> 8), byte(i)}), Value: value}
	}
	long := func(key string, n int) (l []btree.Item) {
		s := size(n) + text(n)
		for i := 0; s != ""; i++ {
			l = append(l, part(key, i, s[:min(360, len(s))]))
			s = s[min(360, len(s)):]
		}
		return l
	}
	two := long("k", 500)
	for i, c := range []struct {
		l  []btree.Item
		is bool
	}{
		{nil, true}, {long("k", 0), true}, {long("k", 358), true}, {two, true}, {slices.Concat(two, long("k\x01", 3), long("j", 4000)), true}, {long(strings.Repeat("k", 100), 5), true}, {long("k", 1<<17), true},
		{long(strings.Repeat("k", 101), 5), false}, {long("k", 1<<17+1), false}, {long("", 5), false}, {long("a\x00b", 5), false}, {long("a\x00", 5), false}, {long("\x00", 5), false}, {long("\x00\x00", 5), false},
		{two[:1], false}, {two[1:], false}, {[]btree.Item{two[0], part("k", 2, two[1].Value)}, false}, {[]btree.Item{two[0], part("k", 256, two[1].Value)}, false}, {[]btree.Item{part("k", 1, "\x01a")}, false}, {[]btree.Item{part("k", 0, "\x01a"), part("k", 1, "")}, false}, {[]btree.Item{part("k", 0, "\x01a"), part("k", 1, "a")}, false}, {[]btree.Item{part("k", 0, "\x02a"), part("k", 1, "a")}, false},
		{[]btree.Item{two[0], two[1], part("k", 2, "")}, false}, {[]btree.Item{part("k", 0, "")}, false}, {[]btree.Item{part("k", 0, "\x00a")}, false}, {[]btree.Item{part("k", 0, "\x02a")}, false}, {[]btree.Item{part("k", 0, "\x81\x00a")}, false}, {[]btree.Item{part("k", 0, "\x80")}, false}, {[]btree.Item{part("k", 0, strings.Repeat("\xff", 20))}, false}, {[]btree.Item{part("k", 0, size(large)+"a")}, false},
		{[]btree.Item{{Key: "k", Value: "\x00"}}, false}, {[]btree.Item{{Key: "kk", Value: "\x00"}}, false}, {[]btree.Item{{Key: "\x00\x00\x00", Value: "\x00"}}, false}, {[]btree.Item{{Key: "kkkk", Value: "\x00"}}, false}, {[]btree.Item{{Key: "k\x01\x00\x00", Value: "\x00"}}, false}, {[]btree.Item{{Key: "k\x00\x00\x00\x00", Value: "\x00"}}, false}, {[]btree.Item{{Key: "k\x00\x00", Value: "\x00"}}, false}, {slices.Concat(two, []btree.Item{{Key: "k\x00\x00\x00x", Value: "\x00"}}), false}, {slices.Concat(two, []btree.Item{{Key: "k", Value: ""}}), false}, {slices.Concat(long("a", 4), long("b", 800)[1:]), false}, {slices.Concat(long("b", 4), long("a", 800)[:2]), false},
	} {
		d := planted(t, c.l)
		want := api.OK
		if !c.is {
			want = api.ErrFormat
		}
		s, e := store.Open(d, 3, 590)
		if e != want || (s == nil) != (e != api.OK) {
			t.Errorf("%d: Open = %d; want %d", i, e, want)
		}
	}
}

// P14.2, P14.7: a damaged byte of any block of the tree.
func TestDamage(t *testing.T) {
	random := rand.New(rand.NewPCG(2, 14))
	d := device(t, 100)
	s, want := formatted(t, d, 0, 100), model{}
	for range 20 {
		acts(t, random, s, want)
	}
	must(t, "Put", s.Put("last", ""), api.OK)
	want["last"] = ""
	must(t, "Commit", s.Commit(), api.OK)
	own, e := treeOf(t, d, 0, 100, s.Generation()).Blocks()
	must(t, "Blocks", e, api.OK)
	if len(own) != 98-s.Free() {
		t.Errorf("%d blocks of the tree, %d free", len(own), s.Free())
	}
	for _, block := range own {
		for _, at := range []int{0, 1, 2, 507, 508, 511, random.IntN(512), random.IntN(512)} {
			by := byte(1 << random.IntN(8))
			must(t, "Damage", d.Damage(block, at, by), api.OK)
			if o, e := store.Open(d, 0, 100); o != nil || e != api.ErrChecksum {
				t.Fatalf("Open = %d", e)
			}
			must(t, "Damage", d.Damage(block, at, by), api.OK)
		}
		must(t, "Damage", d.Damage(block, 9, 9), api.OK)
		l, e := s.Keys("", "", large)
		if e == api.OK != slices.Equal(l, want.keys("", "", large)) || e != api.OK && (e != api.ErrChecksum || len(l) > 0) {
			t.Fatalf("Keys = %q, %d", l, e)
		}
		failed, broken := 0, 0
		for key, value := range want {
			got, is, e := s.Get(key)
			if e == api.ErrChecksum {
				failed++
			}
			if is != (e == api.OK) || is && got != value || !is && got != "" || e != api.OK && e != api.ErrChecksum {
				t.Fatalf("Get = %t, %d", is, e)
			}
			broken += breaks(t, s, key)
		}
		if failed == 0 || broken < 2 {
			t.Fatal("no value is in a damaged block")
		}
		must(t, "Broken", s.Broken(), api.OK)
		must(t, "Damage", d.Damage(block, 9, 9), api.OK)
	}
	check(t, s, want)
}

// breaks tests that errors of Put and Delete break the transaction, and returns their number.
func breaks(t *testing.T, s *store.Store, key string) (errors int) {
	t.Helper()
	for _, put := range []bool{true, false} {
		var e api.Errno
		if put {
			e = s.Put(key, text(30))
		} else {
			_, e = s.Delete(key)
		}
		if e != api.OK {
			must(t, "a change", e, api.ErrChecksum)
			refuses(t, s, e)
			errors++
		}
		if s.Changed() != (e == api.OK) {
			t.Fatal("a change with an error is a change")
		}
		must(t, "Abort", s.Abort(), api.OK)
	}
	return errors
}
