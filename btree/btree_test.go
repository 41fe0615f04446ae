package btree_test

import (
	"maps"
	"math/rand/v2"
	"slices"
	"strings"
	"testing"

	"replevin/api"
	"replevin/blocks"
	"replevin/btree"
	"replevin/disk"
)

// Example 1.
func TestExample(t *testing.T) {
	v := made(t, 3, 5)
	must(t, "Put", v.x.Put("b", "2"), api.OK)
	must(t, "Put", v.x.Put("a", "1"), api.OK)
	if l, e := v.x.Range("", "", large); e != api.OK || !slices.Equal(l, []btree.Item{{Key: "a", Value: "1"}, {Key: "b", Value: "2"}}) {
		t.Errorf("Range = %q, %d", l, e)
	}
	v.commit(t)
	for _, key := range []string{"a", "b"} {
		if is, e := v.x.Delete(key); !is || e != api.OK {
			t.Errorf("Delete = %t, %d", is, e)
		}
	}
	if v.x.Root() != btree.None || v.m.Number(blocks.Free)+v.m.Number(blocks.Given) != 5 {
		t.Errorf("Root = %d, and blocks %v are in use", v.x.Root(), v.m.Used())
	}
}

// P13.1
func TestNew(t *testing.T) {
	d, _ := disk.New(4)
	m, _ := blocks.New(1, 2)
	for _, c := range []struct {
		d *disk.Disk
		m *blocks.Map
	}{{nil, nil}, {d, nil}, {nil, m}} {
		if x, e := btree.New(c.d, c.m); x != nil || e != api.ErrArgument {
			t.Errorf("New = %v, %d", x, e)
		}
		if x, e := btree.Load(c.d, c.m, 7); x != nil || e != api.ErrArgument {
			t.Errorf("Load = %v, %d", x, e)
		}
	}
	d.Fail()
	for _, make := range []func() (*btree.Tree, api.Errno){
		func() (*btree.Tree, api.Errno) { return btree.New(d, m) },
		func() (*btree.Tree, api.Errno) { return btree.Load(d, m, btree.None) },
	} {
		x, e := make()
		must(t, "New", e, api.OK)
		if x.Root() != btree.None {
			t.Errorf("Root = %d", x.Root())
		}
		has(t, x, model{})
	}
	if !m.Equal(m.Clone()) || len(m.Used()) != 0 {
		t.Error("a new tree has blocks")
	}
}

// P13.1: the errors of Load in their order.
func TestLoad(t *testing.T) {
	v := made(t, 2, 6)
	must(t, "Put", v.x.Put("a", "1"), api.OK)
	root := v.x.Root()
	for _, block := range []int{-2, 0, 1, root + 1, 8, large, -large - 1} {
		v.d.Fail()
		if x, e := btree.Load(v.d, v.m, block); x != nil || e != api.ErrRange {
			t.Errorf("Load(%d) = %d", block, e)
		}
		must(t, "Restart", v.d.Restart([]uint8{1}), api.OK)
	}
	has(t, loaded(t, v.d, v.m, root), model{"a": "1"})
	v.commit(t)
	has(t, loaded(t, v.d, v.m, root), model{"a": "1"})
	must(t, "Damage", v.d.Damage(root, 511, 1), api.OK)
	_, e := btree.Load(v.d, v.m, root)
	must(t, "Load of a damaged block", e, api.ErrChecksum)
	v.d.Fail()
	_, e = btree.Load(v.d, v.m, root)
	must(t, "Load without power", e, api.ErrCrash)
	v.d.Restart(nil)
	v.d.Damage(root, 511, 1)
	other, _ := blocks.Load(6, 9, []int{7, 8})
	_, e = btree.Load(v.d, other, 8)
	must(t, "Load of a block that the device has not", e, api.ErrNotFound)
	_, e = btree.Load(v.d, other, 7)
	must(t, "Load of a block of zero bytes", e, api.ErrChecksum)
	must(t, "Give", v.m.Give(root), api.OK)
	_, e = btree.Load(v.d, v.m, root)
	must(t, "Load of a block that was given back", e, api.ErrRange)
}

// P13.2, P13.3: the limits of keys and values.
func TestLimits(t *testing.T) {
	text := func(n int) string { return strings.Repeat("x", n) }
	v := made(t, 0, 9)
	for _, c := range []struct {
		key, value string
		want       api.Errno
	}{
		{"", "", api.ErrShort}, {"", text(361), api.ErrShort}, {text(113), "", api.ErrLong}, {"k", text(361), api.ErrLong}, {text(113), text(361), api.ErrLong}, {text(10000), text(70000), api.ErrLong},
		{text(112), text(360), api.OK}, {"\x00", text(360), api.OK}, {text(112)[:111] + "\xff", "", api.OK}, {text(1), "", api.OK},
	} {
		before := v.m.Clone()
		must(t, "Put", v.x.Put(c.key, c.value), c.want)
		if c.want != api.OK && !v.m.Equal(before) {
			t.Error("an error changes the range")
		}
		if value, is, e := v.x.Get(c.key); value != c.value && is || is != (c.want == api.OK) || e != api.OK {
			t.Errorf("Get = %d bytes, %t, %d", len(value), is, e)
		}
	}
	v.check(t, model{text(112): text(360), "\x00": text(360), text(111) + "\xff": "", "x": ""})
	for _, key := range []string{"", text(113), text(111), "\x00\x00", text(100000)} {
		if value, is, e := v.x.Get(key); value != "" || is || e != api.OK {
			t.Errorf("Get = %q, %t, %d", value, is, e)
		}
		if is, e := v.x.Delete(key); is || e != api.OK {
			t.Errorf("Delete = %t, %d", is, e)
		}
	}
	// Arguments are checked first, the device and the blocks after them.
	v.d.Fail()
	must(t, "Put", v.x.Put("", ""), api.ErrShort)
	must(t, "Put", v.x.Put("a", text(361)), api.ErrLong)
	must(t, "Put", v.x.Put("a", ""), api.ErrCrash)
}

// P13.2, P13.3: keys that there cannot be are looked for like others.
func TestNoKey(t *testing.T) {
	v := made(t, 0, 5)
	must(t, "Put", v.x.Put("a", "1"), api.OK)
	v.d.Fail()
	for _, key := range []string{"", "a", "b", strings.Repeat("k", 113)} {
		value, is, e := v.x.Get(key)
		if value != "" || is {
			t.Errorf("Get = %q, %t", value, is)
		}
		must(t, "Get", e, api.ErrCrash)
		is, e = v.x.Delete(key)
		if is {
			t.Error("Delete = true")
		}
		must(t, "Delete", e, api.ErrCrash)
	}
	v.x, _ = btree.New(v.d, v.m)
	for _, key := range []string{"", "a"} {
		_, is, e := v.x.Get(key)
		must(t, "Get without a root", e, api.OK)
		gone, e := v.x.Delete(key)
		must(t, "Delete without a root", e, api.OK)
		if is || gone {
			t.Errorf("%q is there", key)
		}
	}
}

// act does the same with a tree and with its model, and returns the error.
func act(t *testing.T, random *rand.Rand, x *btree.Tree, want model, puts int, entry func(*rand.Rand) (string, string)) api.Errno {
	t.Helper()
	key, value := entry(random)
	if random.IntN(3) == 0 {
		key = want.some(random)
	}
	if random.IntN(100) < puts {
		e := x.Put(key, value)
		if e == api.OK {
			want[key] = value
		}
		return e
	}
	_, was := want[key]
	is, e := x.Delete(key)
	if is != (was && e == api.OK) {
		t.Fatalf("Delete = %t, %d; want %t", is, e, was)
	}
	if is {
		delete(want, key)
	}
	return e
}

// P13.2 to P13.7: many entries of each sort come and go.
func TestRandom(t *testing.T) {
	random := rand.New(rand.NewPCG(1, 13))
	for _, entry := range kinds {
		v, want := made(t, 5, 400), model{}
		for i, puts := range []int{90, 50, 10, 80, 45, 0} {
			for n := range 200 {
				must(t, "a change", act(t, random, v.x, want, puts, entry), api.OK)
				key, _ := entry(random)
				gets(t, v.x, want, key)
				gets(t, v.x, want, want.some(random))
				if n%10 == 0 {
					v.check(t, want)
				}
				if random.IntN(20) == 0 {
					v.commit(t)
				}
			}
			for range 100 {
				from, _ := entry(random)
				to, _ := entry(random)
				most := random.IntN(12) - 1
				if random.IntN(4) == 0 {
					most = large
				}
				if random.IntN(4) == 0 {
					to = ""
				}
				if l, e := v.x.Range(from, to, most); e != api.OK || !slices.Equal(l, want.items(from, to, most)) {
					t.Fatalf("Range(%q, %q, %d) = %d entries, %d", from, to, most, len(l), e)
				}
			}
			if i == 5 {
				for key := range maps.Clone(want) {
					is, e := v.x.Delete(key)
					delete(want, key)
					if !is || e != api.OK {
						t.Fatalf("Delete = %t, %d", is, e)
					}
					v.check(t, want)
				}
			}
		}
		if len(v.m.Used()) != 0 {
			t.Errorf("blocks %v are in use", v.m.Used())
		}
	}
}

// P13.3, P13.7: keys in increasing and in decreasing order.
func TestOrders(t *testing.T) {
	for _, up := range []bool{true, false} {
		v, want := made(t, 0, 900), model{}
		for i := range 2000 {
			if !up {
				i = 1999 - i
			}
			key := string([]byte{byte(i >> 8), byte(i)})
			must(t, "Put", v.x.Put(key, "value"), api.OK)
			want[key] = "value"
		}
		v.check(t, want)
		for i := range 2000 {
			key := string([]byte{byte(i >> 8), byte(i)})
			if is, e := v.x.Delete(key); !is || e != api.OK {
				t.Fatalf("Delete = %t, %d", is, e)
			}
			delete(want, key)
			if i%100 == 0 {
				v.check(t, want)
			}
		}
		v.check(t, want)
	}
}

// P13.3: a value is replaced by a longer, a shorter, an empty and the same one.
func TestReplace(t *testing.T) {
	v, want := made(t, 0, 60), model{}
	for i := range 12 {
		key := string([]byte{byte('a' + i)})
		want[key] = strings.Repeat("v", 50)
		must(t, "Put", v.x.Put(key, want[key]), api.OK)
	}
	for _, size := range []int{360, 10, 0, 0, 200, 199} {
		for _, key := range []string{"a", "g", "l"} {
			want[key] = strings.Repeat("w", size)
			v.commit(t)
			root := v.x.Root()
			must(t, "Put", v.x.Put(key, want[key]), api.OK)
			if v.x.Root() == root {
				t.Error("the committed root was written")
			}
			v.check(t, want)
		}
	}
}

// P13.2 to P13.6
func TestNil(t *testing.T) {
	var x *btree.Tree
	if x.Root() != btree.None {
		t.Errorf("Root = %d", x.Root())
	}
	value, is, e := x.Get("a")
	must(t, "Get", e, api.ErrArgument)
	must(t, "Put", x.Put("", ""), api.ErrArgument)
	gone, e := x.Delete("a")
	must(t, "Delete", e, api.ErrArgument)
	l, e := x.Range("", "", 0)
	must(t, "Range", e, api.ErrArgument)
	n, e := x.Len()
	must(t, "Len", e, api.ErrArgument)
	h, e := x.Height()
	must(t, "Height", e, api.ErrArgument)
	b, e := x.Blocks()
	must(t, "Blocks", e, api.ErrArgument)
	must(t, "Check", x.Check(), api.ErrArgument)
	if value != "" || is || gone || len(l)+n+h+len(b) != 0 {
		t.Error("a nil tree has values")
	}
	// A tree that was not made by New or Load does not panic either.
	x = new(btree.Tree)
	x.Get("a")
	x.Put("a", "")
	x.Delete("a")
	x.Range("", "", 1)
	x.Len()
	x.Check()
}

// P13.5: nothing is asked for, or nothing is there.
func TestRangeOfNothing(t *testing.T) {
	v := made(t, 0, 30)
	for _, most := range []int{1, 0, -1, large, -large - 1} {
		if l, e := v.x.Range("", "", most); len(l) != 0 || e != api.OK {
			t.Errorf("Range = %v, %d", l, e)
		}
	}
	for _, key := range []string{"b", "c", "d"} {
		must(t, "Put", v.x.Put(key, ""), api.OK)
	}
	for _, c := range []struct{ from, to string }{{"e", ""}, {"", "b"}, {"c", "c"}, {"d", "b"}, {"ba", "c"}, {strings.Repeat("z", 9999), ""}} {
		if l, e := v.x.Range(c.from, c.to, large); len(l) != 0 || e != api.OK {
			t.Errorf("Range(%q, %q) = %v, %d", c.from, c.to, l, e)
		}
	}
	v.d.Fail()
	for _, most := range []int{0, -1, -large - 1} {
		if l, e := v.x.Range("", "", most); len(l) != 0 || e != api.OK {
			t.Errorf("Range of nothing = %v, %d", l, e)
		}
	}
	for _, c := range []struct{ from, to string }{{"", ""}, {"z", ""}, {"", "a"}, {"d", "b"}} {
		if l, e := v.x.Range(c.from, c.to, 1); len(l) != 0 || e != api.ErrCrash {
			t.Errorf("Range without power = %v, %d", l, e)
		}
	}
}

// P13.7: a result is not memory of the tree.
func TestResults(t *testing.T) {
	v, want := made(t, 0, 30), model{}
	for i := range 40 {
		key := string([]byte{byte('A' + i)})
		want[key] = strings.Repeat("v", 30)
		must(t, "Put", v.x.Put(key, want[key]), api.OK)
	}
	l, _ := v.x.Range("", "", large)
	clear(l)
	b, _ := v.x.Blocks()
	clear(b)
	v.check(t, want)
}
