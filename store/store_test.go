package store_test

import (
	"maps"
	"math/rand/v2"
	"slices"
	"strings"
	"testing"

	"replevin/api"
	"replevin/btree"
	"replevin/disk"
	"replevin/frame"
	"replevin/store"
)

// Example 1: the parts of an entry are entries of the tree, of which the store has no others.
func TestParts(t *testing.T) {
	for _, c := range []struct {
		size  int
		sizes []int
	}{{0, []int{1}}, {1, []int{2}}, {127, []int{128}}, {128, []int{130}}, {358, []int{360}}, {359, []int{360, 1}}, {360, []int{360, 2}}, {718, []int{360, 360}}, {719, []int{360, 360, 1}}, {20000, slices.Concat(slices.Repeat([]int{360}, 55), []int{203})}} {
		d := device(t, 200)
		s := formatted(t, d, 10, 190)
		v := text(c.size)
		must(t, "Put", s.Put("key", v), api.OK)
		must(t, "Commit", s.Commit(), api.OK)
		l := entries(t, d, 10, 190, 1)
		if len(l) != len(c.sizes) {
			t.Fatalf("%d parts; want %d", len(l), len(c.sizes))
		}
		all := ""
		for i, x := range l {
			if x.Key != "key\x00"+string([]byte{byte(i >> 8), byte(i)}) || len(x.Value) != c.sizes[i] {
				t.Errorf("part %q of %d bytes; want %d", x.Key, len(x.Value), c.sizes[i])
			}
			all += x.Value
		}
		if all != size(c.size)+v || len(all) != length(c.size) {
			t.Errorf("the parts of a value of %d bytes", c.size)
		}
		must(t, "Put", s.Put("kez", ""), api.OK)
		check(t, s, model{"key": v, "kez": ""})
	}
}

// Example 2, Terms: which root block has which root.
func TestRoots(t *testing.T) {
	d := device(t, 40)
	write(t, d, 4, strings.Repeat("x", disk.BlockSize))
	write(t, d, 5, strings.Repeat("x", disk.BlockSize))
	s := formatted(t, d, 4, 30)
	if read(t, d, 4) != rootBytes(t, 14, 4, 0, signed(-1)) || read(t, d, 5) != strings.Repeat("\x00", disk.BlockSize) {
		t.Error("the root blocks after Format")
	}
	check(t, s, model{})
	for generation := 1; generation < 9; generation++ {
		other := read(t, d, 4+(generation+1)%2)
		if generation == 5 {
			is, e := s.Delete("a")
			if !is || e != api.OK {
				t.Fatalf("Delete = %t, %d", is, e)
			}
		} else {
			must(t, "Put", s.Put("a", "1"), api.OK)
		}
		must(t, "Commit", s.Commit(), api.OK)
		if s.Generation() != generation || read(t, d, 4+(generation+1)%2) != other {
			t.Errorf("generation %d; want %d", s.Generation(), generation)
		}
		f, size, e := frame.Decode(read(t, d, 4+generation%2))
		must(t, "Decode", e, api.OK)
		root := rootOf(t, d, 4, generation)
		if f.Kind != 14 || f.Stream != 4 || f.Number != generation || f.Payload != signed(root) || strings.Trim(read(t, d, 4+generation%2)[size:], "\x00") != "" {
			t.Errorf("%+v", f)
		}
		if (root == btree.None) != (generation == 5) || root != btree.None && (root < 6 || root >= 34) {
			t.Errorf("the root of the tree is in block %d", root)
		}
		if o := opened(t, d, 4, 30); o.Generation() != generation || o.Free() != s.Free() || o.Changed() {
			t.Errorf("Open: generation %d, %d free", o.Generation(), o.Free())
		}
	}
}

// P14.1, P14.2: errors of the arguments.
func TestRangeErrors(t *testing.T) {
	d := device(t, 20)
	down := device(t, 20)
	down.Fail()
	for _, c := range []struct {
		d            *disk.Disk
		first, count int
		want         api.Errno
	}{
		{nil, 0, 0, api.ErrArgument}, {nil, 0, 20, api.ErrArgument}, {down, 0, 7, api.ErrRange}, {down, 0, 8, api.ErrCrash}, {d, 0, 7, api.ErrRange}, {d, 0, 0, api.ErrRange}, {d, 5, -1, api.ErrRange}, {d, -1, 8, api.ErrRange}, {d, 13, 8, api.ErrRange}, {d, 0, 21, api.ErrRange}, {d, 20, 8, api.ErrRange},
		{d, large, 8, api.ErrRange}, {d, 8, large, api.ErrRange}, {d, large, large, api.ErrRange}, {d, -large - 1, 8, api.ErrRange}, {d, 0, -large - 1, api.ErrRange}, {d, -large - 1, large, api.ErrRange}, {d, 12, 8, api.OK}, {d, 0, 20, api.OK}, {d, 0, 8, api.OK},
	} {
		s, e := store.Format(c.d, c.first, c.count)
		if e != c.want || (s == nil) != (e != api.OK) {
			t.Errorf("Format(%d, %d) = %d; want %d", c.first, c.count, e, c.want)
		}
		s, e = store.Open(c.d, c.first, c.count)
		if e != c.want || (s == nil) != (e != api.OK) {
			t.Errorf("Open(%d, %d) = %d; want %d", c.first, c.count, e, c.want)
		}
	}
}

// P14.1: Format writes two blocks and flushes, and each of these operations may fail.
func TestFormat(t *testing.T) {
	d := device(t, 30)
	for block := range 30 {
		write(t, d, block, strings.Repeat("x", disk.BlockSize))
	}
	before := d.Clone()
	for limit := range 3 {
		c := d.Clone()
		c.SetLimit(limit)
		if s, e := store.Format(c, 3, 8); s != nil || e != api.ErrCrash || len(c.Pending()) != limit {
			t.Errorf("Format with a limit of %d = %d", limit, e)
		}
	}
	d.SetLimit(3)
	s := formatted(t, d, 3, 8)
	if d.Operations() != before.Operations()+3 || len(d.Pending()) != 0 {
		t.Errorf("%d operations", d.Operations()-before.Operations())
	}
	for block := range 30 {
		if same := read(t, d, block) == read(t, before, block); same != (block != 3 && block != 4) {
			t.Errorf("block %d", block)
		}
	}
	if s.Generation() != 0 || s.Changed() || s.Free() != 6 || s.Broken() != api.OK {
		t.Errorf("generation %d, %d free", s.Generation(), s.Free())
	}
	if l, e := s.Keys("", "", large); len(l) > 0 || e != api.OK {
		t.Errorf("Keys = %q, %d", l, e)
	}
	must(t, "Commit", s.Commit(), api.OK)
	d.Fail()
	d.Restart(nil)
	check(t, opened(t, d, 3, 8), model{})
}

// P14.3, P14.4: keys and values, and in which order errors are found.
func TestLimits(t *testing.T) {
	d := device(t, 2400)
	s := formatted(t, d, 0, 2400)
	want := model{}
	for _, c := range []struct {
		key  string
		size int
		want api.Errno
	}{
		{"", 0, api.ErrShort}, {"", 1<<17 + 1, api.ErrShort}, {strings.Repeat("k", 101), 0, api.ErrLong}, {strings.Repeat("\x00", 101), 0, api.ErrLong}, {"a\x00", 0, api.ErrByte}, {"\x00", 1<<17 + 1, api.ErrByte}, {strings.Repeat("k", 99) + "\x00", 0, api.ErrByte}, {"a", 1<<17 + 1, api.ErrLong},
		{strings.Repeat("k", 100), 1 << 17, api.OK}, {"\xff", 1 << 17, api.OK}, {"\x01", 0, api.OK}, {"a", 1<<17 - 1, api.OK},
	} {
		v := text(c.size)
		must(t, "Put", s.Put(c.key, v), c.want)
		if c.want == api.OK {
			want[c.key] = v
		} else {
			if s.Changed() {
				t.Error("an error is a change")
			}
			value, is, e := s.Get(c.key)
			gone, f := s.Delete(c.key)
			if value != "" || is || gone || e != api.OK || f != api.OK {
				t.Errorf("Get = %t, %d; Delete = %t, %d", is, e, gone, f)
			}
		}
		must(t, "Broken", s.Broken(), api.OK)
	}
	check(t, s, want)
	must(t, "Commit", s.Commit(), api.OK)
	check(t, opened(t, d, 0, 2400), want)
	// What is no key is not looked for.
	d.Fail()
	for _, key := range []string{"", strings.Repeat("k", 101), "a\x00", "\x00"} {
		value, is, e := s.Get(key)
		gone, f := s.Delete(key)
		if value != "" || is || gone || e != api.OK || f != api.OK {
			t.Errorf("Get = %t, %d; Delete = %t, %d", is, e, gone, f)
		}
		if s.Put(key, "") == api.OK {
			t.Error("Put = OK")
		}
	}
	must(t, "Broken", s.Broken(), api.OK)
	for _, most := range []int{0, -1, -large - 1} {
		if l, e := s.Keys("", "", most); len(l) > 0 || e != api.OK {
			t.Errorf("Keys = %q, %d", l, e)
		}
	}
}

// P14.2 to P14.7: entries of all lengths come and go in transactions.
func TestRandom(t *testing.T) {
	random := rand.New(rand.NewPCG(1, 14))
	for range 6 {
		d := device(t, 420)
		first := random.IntN(10)
		s, want, last := formatted(t, d, first, 400), model{}, model{}
		generation, changed, free := 0, false, 398
		for n := range 400 {
			switch random.IntN(25) {
			case 0:
				must(t, "Commit", s.Commit(), api.OK)
				if changed {
					generation++
				}
				last, changed, free = maps.Clone(want), false, s.Free()
			case 1:
				must(t, "Abort", s.Abort(), api.OK)
				want, changed = maps.Clone(last), false
				if s.Free() != free {
					t.Fatalf("%d blocks are free after Abort; want %d", s.Free(), free)
				}
			case 2:
				s = opened(t, d, first, 400)
				want, changed, free = maps.Clone(last), false, s.Free()
			default:
				done, e := act(t, random, s, want)
				if e == api.ErrNoSpace {
					refuses(t, s, e)
					must(t, "Abort", s.Abort(), api.OK)
					want, changed = maps.Clone(last), false
					continue
				}
				must(t, "a change", e, api.OK)
				changed = changed || done
			}
			if s.Generation() != generation || s.Changed() != changed {
				t.Fatalf("generation %d, %t; want %d, %t", s.Generation(), s.Changed(), generation, changed)
			}
			gets(t, s, want, key(random))
			if n%10 == 0 {
				check(t, s, want)
				ranges(t, random, s, want)
			}
		}
	}
}

// ranges tests Keys.
func ranges(t *testing.T, random *rand.Rand, s *store.Store, want model) {
	t.Helper()
	bound := func() string {
		return key(random) + []string{"", "", "\x00", "\x01", "\x00\x00\x00", "\x00\x00\x01", "\x00\xff"}[random.IntN(7)]
	}
	for range 10 {
		from, to, most := bound(), bound(), random.IntN(20)
		switch random.IntN(4) {
		case 0:
			to = ""
		case 1:
			from = ""
		case 2:
			most = large
		}
		if l, e := s.Keys(from, to, most); e != api.OK || !slices.Equal(l, want.keys(from, to, most)) {
			t.Fatalf("Keys(%q, %q, %d) = %q, %d; want %q", from, to, most, l, e, want.keys(from, to, most))
		}
	}
}

// P14.3: bounds that are no keys.
func TestKeys(t *testing.T) {
	d := device(t, 300)
	s := formatted(t, d, 0, 300)
	want := model{}
	for _, key := range []string{"a", "a\x01", "ab", "b", "b\x01\x01", "c", "\x01", "\xff\xff"} {
		want[key] = text(len(want) * 900)
		must(t, "Put", s.Put(key, want[key]), api.OK)
	}
	bounds := []string{"", "\x00", "\x00\x00", "\x01", "\x01\x00", "a", "a\x00", "a\x00\x00\x00", "a\x00\x00\x01", "a\x00\xff\xff", "a\x01", "a\x01\x00\x00\x00", "aa", "b", "b\x00z", "b\x01", "z", "\xff\xff\xff", strings.Repeat("\x00", 300), strings.Repeat("a", 300)}
	for _, from := range bounds {
		for _, to := range bounds {
			for _, most := range []int{1, 2, 3, 8, large, 0, -1} {
				if l, e := s.Keys(from, to, most); e != api.OK || !slices.Equal(l, want.keys(from, to, most)) {
					t.Fatalf("Keys(%q, %q, %d) = %q, %d; want %q", from, to, most, l, e, want.keys(from, to, most))
				}
			}
		}
	}
	l, _ := s.Keys("", "", large)
	clear(l)
	check(t, s, want)
}

// P14.3: many keys with values of one part and of several.
func TestManyKeys(t *testing.T) {
	d := device(t, 2000)
	s := formatted(t, d, 0, 2000)
	want := model{}
	for i := range 700 {
		key := string([]byte{byte(1 + i/200), byte(1 + i%200)})
		want[key] = text(i % 7 * i % 1000)
		must(t, "Put", s.Put(key, want[key]), api.OK)
	}
	check(t, s, want)
	for _, most := range []int{63, 64, 65, 128, 129, 699, 700, 701} {
		if l, e := s.Keys("", "", most); e != api.OK || !slices.Equal(l, want.keys("", "", most)) {
			t.Errorf("Keys = %d keys, %d; want %d", len(l), e, most)
		}
	}
}

// length returns the number of bytes of all parts of a value.
func length(n int) int { return len(size(n)) + n }

// P14.4: the parts of a value that is replaced do not stay.
func TestReplace(t *testing.T) {
	d := device(t, 300)
	s := formatted(t, d, 0, 300)
	for _, size := range []int{5000, 359, 358, 0, 720, 1, 3000, 2999} {
		v := text(size)
		must(t, "Put", s.Put("k", v), api.OK)
		must(t, "Put", s.Put("k\x01", v), api.OK)
		check(t, s, model{"k": v, "k\x01": v})
		must(t, "Commit", s.Commit(), api.OK)
		check(t, opened(t, d, 0, 300), model{"k": v, "k\x01": v})
		if l := entries(t, d, 0, 300, s.Generation()); len(l) != 2*((length(size)+359)/360) {
			t.Errorf("%d parts of values of %d bytes", len(l), size)
		}
	}
	is, e := s.Delete("k")
	if !is || e != api.OK {
		t.Errorf("Delete = %t, %d", is, e)
	}
	check(t, s, model{"k\x01": text(2999)})
}

// P14.3 to P14.6
func TestNil(t *testing.T) {
	var s *store.Store
	value, is, e := s.Get("a")
	must(t, "Get", e, api.ErrArgument)
	must(t, "Put", s.Put("", ""), api.ErrArgument)
	gone, e := s.Delete("")
	must(t, "Delete", e, api.ErrArgument)
	l, e := s.Keys("", "", 0)
	must(t, "Keys", e, api.ErrArgument)
	must(t, "Commit", s.Commit(), api.ErrArgument)
	must(t, "Abort", s.Abort(), api.ErrArgument)
	must(t, "Broken", s.Broken(), api.ErrArgument)
	if value != "" || is || gone || len(l)+s.Generation()+s.Free() != 0 || s.Changed() {
		t.Error("a nil store has values")
	}
	// A store that was not made by Format or Open does not panic either.
	s = new(store.Store)
	s.Keys("", "", 1)
	s.Get("a")
	s.Commit()
	s.Abort()
	s.Put("a", "")
	s.Delete("a")
	s.Free()
}
