package btree

import (
	"math/rand/v2"
	"slices"
	"strings"
	"testing"

	"replevin/api"
	"replevin/blocks"
	"replevin/disk"
)

// The bytes of nodes are not specified, so what concerns certain nodes is tested inside the package.

const everything = int(^uint(0) >> 1)

func expect(t *testing.T, what string, e, want api.Errno) {
	t.Helper()
	if e != want {
		t.Fatalf("%s = %d; want %d", what, e, want)
	}
}

// empty returns a tree without entries.
func empty(t *testing.T, count int) *Tree {
	t.Helper()
	d, e := disk.New(count)
	expect(t, "disk.New", e, api.OK)
	m, e := blocks.New(0, count)
	expect(t, "blocks.New", e, api.OK)
	x, e := New(d, m)
	expect(t, "New", e, api.OK)
	return x
}

// copied returns an independent copy of a tree, with a number of free blocks.
func copied(x *Tree, free int) *Tree {
	c := &Tree{x.device.Clone(), x.blocks.Clone(), x.root}
	for c.blocks.Number(blocks.Free) > free {
		c.blocks.Take()
	}
	return c
}

// long returns a key of the greatest length, of which few have room in a node.
func long(i int) string {
	return string([]byte{byte('a' + i/26), byte('a' + i%26)}) + strings.Repeat("k", MaxKey-2)
}

// tall returns a tree with several levels, and its keys.
func tall(t *testing.T, random *rand.Rand, entries int) (*Tree, []string) {
	t.Helper()
	x := empty(t, 600)
	var keys []string
	for _, i := range random.Perm(676)[:entries] {
		expect(t, "Put", x.Put(long(i), strings.Repeat("v", random.IntN(120))), api.OK)
		keys = append(keys, long(i))
	}
	slices.Sort(keys)
	expect(t, "Flush", x.device.Flush(), api.OK)
	expect(t, "Commit", x.blocks.Commit(), api.OK)
	return x, keys
}

// at returns the node in a block.
func at(t *testing.T, x *Tree, block int) node {
	t.Helper()
	b, e := x.device.Read(block)
	expect(t, "Read", e, api.OK)
	n, e := decode(string(b))
	expect(t, "decode", e, api.OK)
	return n
}

// put replaces the node in a block.
func put(t *testing.T, x *Tree, block int, n node) {
	t.Helper()
	expect(t, "Write", x.device.Write(block, encode(n)), api.OK)
	expect(t, "Flush", x.device.Flush(), api.OK)
}

// place is a node of a tree.
type place struct {
	block, depth int
	above        []int // the blocks from the root to its parent
	index        int   // among the children of its parent
	node         node
	low, high    string
}

// places returns the nodes of a tree in the order of Check, with the bounds that the keys above them give to their own.
func places(t *testing.T, x *Tree) (l []place) {
	var visit func(p place)
	visit = func(p place) {
		p.node = at(t, x, p.block)
		l = append(l, p)
		children := p.node.below()
		for i, c := range children {
			q := place{block: c.block, depth: p.depth + 1, above: append(slices.Clone(p.above), p.block), index: i, low: p.low, high: p.high}
			if i > 0 {
				q.low = c.key
			}
			if i+1 < len(children) {
				q.high = children[i+1].key
			}
			visit(q)
		}
	}
	if x.root != None {
		visit(place{block: x.root, depth: 1})
	}
	return l
}

// leaves returns the places of the leaves.
func leaves(t *testing.T, x *Tree) []place {
	return slices.DeleteFunc(places(t, x), func(p place) bool { return p.node.kind() != leafKind })
}

// sound fails if a tree is not as the Terms say.
func sound(t *testing.T, x *Tree) {
	t.Helper()
	depth := 0
	var used []int
	for _, p := range places(t, x) {
		used = append(used, p.block)
		switch n := p.node.(type) {
		case *leaf:
			if depth != 0 && depth != p.depth {
				t.Fatal("leaves have different depths")
			}
			depth = p.depth
			for i, entry := range n.entries {
				if entry.Key < p.low || p.high != "" && entry.Key >= p.high || i > 0 && entry.Key <= n.entries[i-1].Key {
					t.Fatalf("key %q in a leaf from %q to %q", entry.Key, p.low, p.high)
				}
			}
		case *inner:
			for i, c := range n.children[1:] {
				if c.key <= p.low || p.high != "" && c.key >= p.high || i > 0 && c.key <= n.children[i].key {
					t.Fatalf("key %q of a child in a node from %q to %q", c.key, p.low, p.high)
				}
			}
		}
	}
	slices.Sort(used)
	if !slices.Equal(used, x.blocks.Used()) {
		t.Fatalf("nodes are in the blocks %v; want %v", used, x.blocks.Used())
	}
}

// lows returns the keys that separate the leaves.
func lows(l []place) (keys []string) {
	for _, p := range l[min(1, len(l)):] {
		keys = append(keys, p.low)
	}
	return keys
}

// Terms: a key that separates leaves stays until one of them is divided or given up.
func TestSeparators(t *testing.T) {
	random := rand.New(rand.NewPCG(1, 113))
	x, keys := tall(t, random, 150)
	divided, removed, most := 0, 0, 0
	for round := range 1000 {
		before := leaves(t, x)
		want := lows(before)
		if round%300 < 120 || len(before) < 3 {
			key := long(random.IntN(676))
			expect(t, "Put", x.Put(key, strings.Repeat("v", random.IntN(361))), api.OK)
			after := leaves(t, x)
			more := len(after) - len(before)
			i := slices.IndexFunc(before, func(p place) bool { return p.high == "" || key < p.high })
			for k := range more {
				want = slices.Insert(want, i+k, after[i+k+1].node.key())
			}
			divided += more
			most = max(most, more)
		} else {
			keys = keys[:0]
			for _, p := range before {
				for _, entry := range p.node.(*leaf).entries {
					keys = append(keys, entry.Key)
				}
			}
			key := keys[random.IntN(len(keys))]
			i := slices.IndexFunc(before, func(p place) bool { return p.high == "" || key < p.high })
			if _, e := x.Delete(key); e != api.OK {
				t.Fatalf("Delete = %d", e)
			}
			if before[i].node.count() == 1 && len(want) > 0 {
				// The child behind the first one of a node becomes its first one.
				if before[i].index > 0 {
					i--
				}
				want = slices.Delete(want, i, i+1)
				removed++
			}
		}
		if got := lows(leaves(t, x)); !slices.Equal(got, want) {
			t.Fatalf("keys %q; want %q", got, want)
		}
		sound(t, x)
		expect(t, "Check", x.Check(), api.OK)
	}
	if divided < 50 || removed < 50 || most != 2 {
		t.Errorf("%d leaves were divided (at most %d new ones), and %d removed", divided, most, removed)
	}
}

// A large entry between two others divides a leaf into three.
func TestThree(t *testing.T) {
	x := empty(t, 20)
	for _, key := range []string{"a", "c"} {
		expect(t, "Put", x.Put(key, strings.Repeat("v", 240)), api.OK)
	}
	expect(t, "Put", x.Put("b", strings.Repeat("v", 360)), api.OK)
	if l := places(t, x); len(l) != 4 || l[0].node.count() != 3 {
		t.Errorf("%d nodes", len(l))
	}
	sound(t, x)
}

// P13.5: which nodes Range reads.
func TestRangeReads(t *testing.T) {
	random := rand.New(rand.NewPCG(2, 113))
	x, keys := tall(t, random, 120)
	for range 40 { // some keys of children are not in the tree any more
		i := random.IntN(len(keys))
		_, e := x.Delete(keys[i])
		expect(t, "Delete", e, api.OK)
		keys = slices.Delete(keys, i, i+1)
	}
	l := places(t, x)
	var bounds []string
	for _, p := range l {
		bounds = append(bounds, p.low, p.low+"\x00", p.node.key())
	}
	bounds = append(append(bounds, keys...), "", "z")
	for range 150 {
		from, to, most := bounds[random.IntN(len(bounds))], bounds[random.IntN(len(bounds))], 1+random.IntN(30)
		if random.IntN(4) == 0 {
			to = ""
		}
		want := readBlocks(t, x, from, to, most)
		for _, p := range l {
			expect(t, "Damage", x.device.Damage(p.block, random.IntN(512), 1<<random.IntN(8)), api.OK)
			found, e := x.Range(from, to, most)
			if is := e == api.ErrChecksum; is != slices.Contains(want, p.block) || is && len(found) > 0 || !is && e != api.OK {
				t.Fatalf("Range(%q, %q, %d) = %d, block %d is damaged; want blocks %v", from, to, most, e, p.block, want)
			}
			put(t, x, p.block, p.node)
		}
	}
}

// readBlocks returns the blocks that Range reads.
func readBlocks(t *testing.T, x *Tree, from, to string, most int) (read []int) {
	found := 0
	var visit func(block int)
	visit = func(block int) {
		read = append(read, block)
		n := at(t, x, block)
		if l, is := n.(*leaf); is {
			for _, entry := range l.entries {
				if entry.Key >= from && (to == "" || entry.Key < to) && found < most {
					found++
				}
			}
			return
		}
		children, start := n.below(), 0
		for i := range children {
			if i > 0 && children[i].key <= from {
				start = i
			}
		}
		for i := start; i < len(children) && found < most; i++ {
			if i > 0 && to != "" && children[i].key >= to {
				return
			}
			visit(children[i].block)
		}
	}
	visit(x.root)
	return read
}

// P13.3: Delete reads the way to the leaf, and neighbours of inner nodes with a single child only.
func TestNeighbours(t *testing.T) {
	random := rand.New(rand.NewPCG(3, 113))
	joins, twice := 0, 0
	for range 6 {
		x, keys := tall(t, random, 60)
		for len(keys) > 0 {
			i := random.IntN(len(keys))
			n := neighbours(t, x, keys[i])
			joins += n
			if n > 1 {
				twice++
			}
			is, e := x.Delete(keys[i])
			if !is || e != api.OK {
				t.Fatalf("Delete = %t, %d", is, e)
			}
			keys = slices.Delete(keys, i, i+1)
			sound(t, x)
			expect(t, "Flush", x.device.Flush(), api.OK)
			expect(t, "Commit", x.blocks.Commit(), api.OK)
		}
	}
	if joins < 30 || twice < 3 {
		t.Errorf("%d neighbours were read, more than one %d times", joins, twice)
	}
}

// neighbours tests which other nodes than those on the way Delete reads, and returns their number.
func neighbours(t *testing.T, x *Tree, key string) (number int) {
	l := places(t, x)
	w, e := x.descend(key)
	expect(t, "descend", e, api.OK)
	after := copied(x, everything)
	after.Delete(key)
	needed := after.blocks.Number(blocks.Fresh)
	lone := w.leaf.count() == 1 && len(w.steps) > 1 && w.steps[len(w.steps)-1].node.count() == 2
	for _, p := range l {
		if slices.Contains(w.blocks, p.block) {
			continue
		}
		expect(t, "Damage", x.device.Damage(p.block, 77, 4), api.OK)
		full := copied(x, everything)
		_, e := full.Delete(key)
		if e != api.OK {
			expect(t, "Delete", e, api.ErrChecksum)
			number++
			if !lone || !adjacent(l, w.blocks, p) {
				t.Fatal("a node is read that is no neighbour of one with a single child")
			}
		}
		short(t, x, key, needed, e)
		put(t, x, p.block, p.node)
	}
	if lone != (number > 0) {
		t.Fatalf("%d neighbours are read", number)
	}
	return number
}

// adjacent reports whether an inner node is next to one on a way, with the same parent.
func adjacent(l []place, way []int, p place) bool {
	return p.node.kind() == innerKind && slices.ContainsFunc(l, func(q place) bool {
		return slices.Contains(way, q.block) && slices.Equal(q.above, p.above) && (q.index == p.index-1 || q.index == p.index+1)
	})
}

// short tests Delete of a key with fewer blocks, which otherwise needs a number of them or has an error.
func short(t *testing.T, x *Tree, key string, needed int, want api.Errno) {
	t.Helper()
	for free := range needed {
		c := copied(x, free)
		before := c.blocks.Clone()
		_, e := c.Delete(key)
		// The neighbour cannot be read, but it takes a block at least, and one for each node above it that is not given up.
		if e != api.ErrNoSpace && (want == api.OK || e != want || free == 0) {
			t.Fatalf("Delete with %d of %d blocks = %d", free, needed, e)
		}
		if !c.blocks.Equal(before) || c.root != x.root {
			t.Fatal("an error changes something")
		}
	}
	_, e := copied(x, needed).Delete(key)
	expect(t, "Delete with enough blocks", e, want)
}

// built returns the block of a node with certain numbers of children at each level: the first number is that of the first child of each node, and of the root.
func built(t *testing.T, x *Tree, next *int, numbers ...int) int {
	t.Helper()
	if len(numbers) == 0 {
		block, _ := x.blocks.Take()
		put(t, x, block, &leaf{[]Item{{long(*next), ""}}})
		*next++
		return block
	}
	n := &inner{}
	for range numbers[0] {
		key := long(*next)
		n.children = append(n.children, child{key: key, block: built(t, x, next, numbers[1:]...)})
	}
	block, _ := x.blocks.Take()
	put(t, x, block, n)
	return block
}

// P13.3: without the neighbour of an inner node, it is certain that there is not enough room if even the fewest nodes have none.
func TestNeeded(t *testing.T) {
	for _, c := range []struct {
		numbers []int
		needed  int
	}{{[]int{3, 2}, 2}, {[]int{2, 2}, 1}, {[]int{2, 3, 2}, 3}, {[]int{3, 3, 2}, 3}, {[]int{2, 2, 2}, 2}, {[]int{3, 2, 2}, 3}, {[]int{2, 2, 2, 2}, 3}, {[]int{2, 2, 3, 2}, 4}, {[]int{2, 3, 2, 2}, 4}, {[]int{3, 2, 2, 2}, 4}} {
		x, next := empty(t, 100), 0
		x.root = built(t, x, &next, c.numbers...)
		expect(t, "Check", x.Check(), api.OK)
		expect(t, "Commit", x.blocks.Commit(), api.OK)
		fewest := copied(x, everything)
		_, e := fewest.Delete(long(1))
		expect(t, "Delete", e, api.OK)
		if n := fewest.blocks.Number(blocks.Fresh); n != c.needed {
			t.Errorf("%v: %d blocks are needed; want %d", c.numbers, n, c.needed)
		}
		w, e := x.descend(long(1))
		expect(t, "descend", e, api.OK)
		above := w.steps[len(w.steps)-2].node
		expect(t, "Damage", x.device.Damage(above.children[1].block, 0, 1), api.OK)
		for free := range 7 {
			want := api.ErrChecksum
			if free < c.needed {
				want = api.ErrNoSpace
			}
			_, e := copied(x, free).Delete(long(1))
			expect(t, "Delete", e, want)
		}
	}
}

// P13.6: trees that are not as the Terms say, and which error comes first.
func TestCheck(t *testing.T) {
	random := rand.New(rand.NewPCG(4, 113))
	x, _ := tall(t, random, 100)
	l := places(t, x)
	if l[len(l)-1].depth < 4 {
		t.Fatalf("the tree has %d levels", l[len(l)-1].depth)
	}
	fails := func(what string, want api.Errno, change func(c *Tree)) {
		t.Helper()
		c := copied(x, everything)
		change(c)
		expect(t, what, c.Check(), want)
	}
	for i, p := range l {
		damage := func(c *Tree) { c.device.Damage(p.block, 3, 1) }
		fails("a damaged node", api.ErrChecksum, damage)
		fails("a node in a block that is not in use", api.ErrFormat, func(c *Tree) {
			damage(c)
			c.blocks.Give(p.block)
		})
		fails("a node in a block that was never in use", api.ErrFormat, func(c *Tree) {
			c.blocks.Give(p.block)
			c.blocks.Commit()
		})
		if i == 0 {
			continue
		}
		q := l[random.IntN(i)]
		fails("a damaged node ahead of one whose block is not in use", api.ErrChecksum, func(c *Tree) {
			c.device.Damage(q.block, 3, 1)
			c.blocks.Give(p.block)
		})
		fails("a damaged node behind one whose block is not in use", api.ErrFormat, func(c *Tree) {
			c.blocks.Give(q.block)
			damage(c)
		})
		child := func(block int) func(c *Tree) {
			return func(c *Tree) {
				n := at(t, c, p.above[len(p.above)-1]).(*inner)
				n.children[p.index].block = block
				put(t, c, p.above[len(p.above)-1], n)
			}
		}
		fails("a block that was there before", api.ErrFormat, func(c *Tree) {
			damage(c) // it is not read again
			child(q.block)(c)
		})
		fails("a block that is not in the range", api.ErrFormat, child(600+random.IntN(65536-600)))
		fails("a block of zero bytes", api.ErrChecksum, func(c *Tree) {
			block, _ := c.blocks.Take()
			expect(t, "Write", c.device.Write(block, make([]byte, disk.BlockSize)), api.OK)
			child(block)(c)
		})
		wrongKeys(t, x, p, fails)
	}
}

// wrongKeys tests Check of trees with a node whose keys do not fit.
func wrongKeys(t *testing.T, x *Tree, p place, fails func(string, api.Errno, func(*Tree))) {
	t.Helper()
	change := func(edit func(n node)) func(c *Tree) {
		return func(c *Tree) {
			n := at(t, c, p.block)
			edit(n)
			put(t, c, p.block, n)
		}
	}
	first := func(key string) func(n node) {
		return func(n node) {
			switch n := n.(type) {
			case *leaf:
				n.entries = []Item{{Key: key}}
			case *inner:
				n.children[1].key = key
				if key >= n.children[len(n.children)-1].key {
					n.children = n.children[:2]
				}
			}
		}
	}
	if p.low != "" {
		fails("a key that is less than that of the child", api.ErrFormat, change(first(p.low[:len(p.low)-1])))
	}
	if p.high != "" {
		fails("the key of the next child", api.ErrFormat, change(first(p.high)))
		fails("the key of the next child ahead of damaged nodes", api.ErrFormat, func(c *Tree) {
			for _, below := range p.node.below() {
				c.device.Damage(below.block, 0, 1)
			}
			change(first(p.high))(c)
		})
		fails("a key greater than that of the next child", api.ErrFormat, change(first(p.high[:MaxKey-1]+"z")))
	}
	if p.node.kind() == leafKind && p.low != "" {
		fails("the key of the child itself", api.OK, change(first(p.low)))
	}
	// A leaf with the right keys, at another depth.
	if p.node.kind() == innerKind {
		key := p.low
		if key == "" {
			key = "a"
		}
		want := api.ErrFormat
		if p.depth == 1 {
			want = api.OK
		}
		fails("a leaf at another depth", want, func(c *Tree) { put(t, c, p.block, &leaf{[]Item{{Key: key}}}) })
		return
	}
	fails("an inner node in the place of a leaf", api.ErrFormat, func(c *Tree) {
		n := &inner{}
		for _, entry := range []Item{{Key: p.node.key()}, {Key: p.node.key() + "\x00"}} {
			block, _ := c.blocks.Take()
			if len(entry.Key) > MaxKey {
				entry.Key = entry.Key[:MaxKey-1] + "l"
			}
			put(t, c, block, &leaf{[]Item{entry}})
			n.children = append(n.children, child{key: entry.Key, block: block})
		}
		put(t, c, p.block, n)
	})
}

// P13.5: Len, Height and Blocks count what they meet.
func TestCounts(t *testing.T) {
	x := empty(t, 30)
	var shelf [4]int
	for i := range shelf {
		shelf[i], _ = x.blocks.Take()
	}
	put(t, x, shelf[0], &leaf{[]Item{{"b", ""}, {"c", ""}}})
	put(t, x, shelf[1], &leaf{[]Item{{"a", ""}}})
	put(t, x, shelf[2], &inner{[]child{{block: shelf[0]}, {key: "x", block: shelf[0]}}})
	put(t, x, shelf[3], &inner{[]child{{block: shelf[2]}, {key: "c", block: shelf[1]}, {key: "d", block: shelf[2]}}})
	x.root = shelf[3]
	n, e := x.Len()
	expect(t, "Len", e, api.OK)
	h, e := x.Height()
	expect(t, "Height", e, api.OK)
	l, e := x.Blocks()
	expect(t, "Blocks", e, api.OK)
	want := []int{shelf[0], shelf[0], shelf[0], shelf[0], shelf[1], shelf[2], shelf[2], shelf[3]}
	if n != 9 || h != 3 || !slices.Equal(l, want) {
		t.Errorf("%d entries, %d levels, blocks %v", n, h, l)
	}
	expect(t, "Check", x.Check(), api.ErrFormat)
}

// P1: nothing goes round a circle forever, and a neighbour that is no inner node is not joined.
func TestCircles(t *testing.T) {
	for _, circle := range []bool{true, false} {
		x := empty(t, 30)
		a, _ := x.blocks.Take()
		b, _ := x.blocks.Take()
		c, _ := x.blocks.Take()
		put(t, x, a, &leaf{[]Item{{"a", ""}}})
		put(t, x, b, &inner{[]child{{block: a}, {key: "c", block: a}}})
		to, _ := x.blocks.Take()
		put(t, x, to, &leaf{[]Item{{"b", ""}}})
		if circle {
			to = c
		}
		put(t, x, c, &inner{[]child{{block: b}, {key: "b", block: to}}})
		x.root = c
		before := x.blocks.Clone()
		if circle {
			_, _, e := x.Get("b")
			expect(t, "Get", e, api.ErrFormat)
			expect(t, "Put", x.Put("b", ""), api.ErrFormat)
			_, e = x.Delete("b")
			expect(t, "Delete", e, api.ErrFormat)
			_, e = x.Range("b", "", 1)
			expect(t, "Range", e, api.ErrFormat)
			_, e = x.Len()
			expect(t, "Len", e, api.ErrFormat)
		}
		expect(t, "Check", x.Check(), api.ErrFormat)
		_, e := x.Delete("a")
		expect(t, "Delete", e, api.ErrFormat)
		if !x.blocks.Equal(before) || x.root != c {
			t.Error("an error changes something")
		}
	}
}

// Contract: whatever bytes are in a block, only those of a node are accepted.
func TestDecode(t *testing.T) {
	random := rand.New(rand.NewPCG(5, 113))
	x, _ := tall(t, random, 60)
	for i := range 30 {
		expect(t, "Put", x.Put(string([]byte{'0', byte(i)}), ""), api.OK)
	}
	accepted, refused := 0, 0
	for _, p := range places(t, x) {
		for range 600 {
			b := encode(p.node)[:room]
			end := len(strings.TrimRight(string(b), "\x00")) + 2
			for range 1 + random.IntN(2) {
				b[random.IntN(min(end, room))] ^= 1 << random.IntN(8)
			}
			s := string(b) + check(string(b))
			n, e := decode(s)
			if e != api.OK {
				expect(t, "decode", e, api.ErrFormat)
				refused++
				continue
			}
			accepted++
			if string(encode(n)) != s {
				t.Fatalf("decode accepts % x", b)
			}
			proper(t, n)
		}
	}
	if accepted < 100 || refused < 100 {
		t.Errorf("%d accepted, %d refused", accepted, refused)
	}
}

// proper fails if something is not permitted in a node.
func proper(t *testing.T, n node) {
	t.Helper()
	var keys []string
	switch n := n.(type) {
	case *leaf:
		for _, entry := range n.entries {
			keys = append(keys, entry.Key)
			if len(entry.Value) > MaxValue {
				t.Fatal("a long value")
			}
		}
	case *inner:
		if len(n.children) < 2 {
			t.Fatal("a single child")
		}
		for _, c := range n.children[1:] {
			keys = append(keys, c.key)
		}
	}
	if len(keys) == 0 {
		t.Fatal("no keys")
	}
	for i, key := range keys {
		if key == "" || len(key) > MaxKey || i > 0 && key <= keys[i-1] {
			t.Fatalf("keys %q", keys)
		}
	}
}
