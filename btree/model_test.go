package btree_test

import (
	"maps"
	"math/rand/v2"
	"slices"
	"strings"
	"testing"

	"replevin/api"
	"replevin/blocks"
	"replevin/btree"
	"replevin/disk"
)

const large = int(^uint(0) >> 1)

// The model of a tree is a map.
type model map[string]string

func (m model) items(from, to string, most int) (l []btree.Item) {
	for _, key := range slices.Sorted(maps.Keys(m)) {
		if len(l) < most && key >= from && (to == "" || key < to) {
			l = append(l, btree.Item{Key: key, Value: m[key]})
		}
	}
	return l
}

// device is a device with a range of blocks and a tree, to which all blocks in use belong.
type device struct {
	d *disk.Disk
	m *blocks.Map
	x *btree.Tree
}

// made returns a tree without entries, in count blocks.
func made(t *testing.T, first, count int) device {
	t.Helper()
	d, e := disk.New(first + count)
	must(t, "disk.New", e, api.OK)
	m, e := blocks.New(first, count)
	must(t, "blocks.New", e, api.OK)
	x, e := btree.New(d, m)
	must(t, "New", e, api.OK)
	return device{d, m, x}
}

// must fails if an operation has not the result that it should have.
func must(t *testing.T, what string, e, want api.Errno) {
	t.Helper()
	if e != want {
		t.Fatalf("%s = %d; want %d", what, e, want)
	}
}

// loaded returns the tree with a root.
func loaded(t *testing.T, d *disk.Disk, m *blocks.Map, root int) *btree.Tree {
	t.Helper()
	x, e := btree.Load(d, m, root)
	must(t, "Load", e, api.OK)
	return x
}

// copied returns an independent copy.
func (v device) copied(t *testing.T) device {
	t.Helper()
	d, m := v.d.Clone(), v.m.Clone()
	return device{d, m, loaded(t, d, m, v.x.Root())}
}

// commit makes a tree durable.
func (v device) commit(t *testing.T) {
	t.Helper()
	must(t, "Flush", v.d.Flush(), api.OK)
	must(t, "Commit", v.m.Commit(), api.OK)
}

// has fails if a tree has not the entries that it should have.
func has(t *testing.T, x *btree.Tree, want model) {
	t.Helper()
	if l, e := x.Range("", "", large); e != api.OK || !slices.Equal(l, want.items("", "", large)) {
		t.Fatalf("Range = %d entries, %d; want %d", len(l), e, len(want))
	}
	if n, e := x.Len(); e != api.OK || n != len(want) {
		t.Fatalf("Len = %d, %d; want %d", n, e, len(want))
	}
	height, e := x.Height()
	if e != api.OK || (height == 0) != (len(want) == 0) || height > 0 && 1<<(height-1) > len(want) {
		t.Fatalf("Height = %d, %d of %d entries", height, e, len(want))
	}
	if (x.Root() == btree.None) != (len(want) == 0) {
		t.Fatalf("Root = %d of %d entries", x.Root(), len(want))
	}
	must(t, "Check", x.Check(), api.OK)
}

// check fails if a tree has not the entries that it should have, or other blocks than those in use.
func (v device) check(t *testing.T, want model) {
	t.Helper()
	has(t, v.x, want)
	if l, e := v.x.Blocks(); e != api.OK || !slices.Equal(l, v.m.Used()) {
		t.Fatalf("Blocks = %v, %d; want %v", l, e, v.m.Used())
	}
}

// gets fails if the value of a key is not what it should be.
func gets(t *testing.T, x *btree.Tree, want model, key string) {
	t.Helper()
	value, is := want[key]
	if v, found, e := x.Get(key); v != value || found != is || e != api.OK {
		t.Fatalf("Get(%q) = %q, %t, %d; want %q, %t", key, v, found, e, value, is)
	}
}

// kinds are different sorts of entries.
var kinds = []func(random *rand.Rand) (key, value string){
	func(random *rand.Rand) (string, string) { // many entries in a node
		return word(random, 1+random.IntN(3)), word(random, random.IntN(4))
	},
	func(random *rand.Rand) (string, string) { // long keys, and few children of a node
		return strings.Repeat("k", 105) + word(random, 1+random.IntN(7)), word(random, random.IntN(20))
	},
	func(random *rand.Rand) (string, string) { // the longest entries
		key := word(random, 2)
		return key + strings.Repeat("k", 110), strings.Repeat("v", 300+random.IntN(61))
	},
	func(random *rand.Rand) (string, string) { // everything
		return word(random, 1+random.IntN(2)) + strings.Repeat("k", random.IntN(2)*random.IntN(111)), strings.Repeat("v", random.IntN(2)*random.IntN(361)+random.IntN(2)*random.IntN(1))
	},
}

// word returns some bytes, of which there are few different ones.
func word(random *rand.Rand, length int) string {
	b := make([]byte, length)
	for i := range b {
		b[i] = "\x00\x01abcdz\xff"[random.IntN(8)]
	}
	return string(b)
}

// some returns a key that is there, if there is one.
func (m model) some(random *rand.Rand) string {
	l := slices.Sorted(maps.Keys(m))
	if len(l) == 0 {
		return "none"
	}
	return l[random.IntN(len(l))]
}
