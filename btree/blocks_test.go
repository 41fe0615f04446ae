package btree_test

import (
	"hash/crc32"
	"maps"
	"math/rand/v2"
	"slices"
	"strings"
	"testing"

	"replevin/api"
	"replevin/blocks"
	"replevin/btree"
)

// grown returns a tree with many entries of a sort.
func grown(t *testing.T, random *rand.Rand, count, entries int, entry func(*rand.Rand) (string, string)) (device, model) {
	t.Helper()
	v, want := made(t, 1, count), model{}
	for range entries {
		key, value := entry(random)
		must(t, "Put", v.x.Put(key, value), api.OK)
		want[key] = value
	}
	return v, want
}

// P13.4: a change writes each of its new blocks once, all of them were free, and the others stay as they are.
func TestWrites(t *testing.T) {
	random := rand.New(rand.NewPCG(2, 13))
	for _, entry := range kinds {
		v, want := grown(t, random, 300, 60, entry)
		for range 300 {
			if random.IntN(5) == 0 {
				v.commit(t)
			}
			must(t, "Flush", v.d.Flush(), api.OK)
			before := v.m.Clone()
			operations := v.d.Operations()
			must(t, "a change", act(t, random, v.x, want, 50, entry), api.OK)
			var written []int
			for _, w := range v.d.Pending() {
				written = append(written, w.Block)
				if state, e := before.State(w.Block); state != blocks.Free || e != api.OK {
					t.Fatalf("block %d is written in the state %d, %d", w.Block, state, e)
				}
			}
			if v.d.Operations() != operations+len(written) {
				t.Fatal("a change flushes the device")
			}
			slices.Sort(written)
			var fresh []int
			for _, block := range v.m.Used() {
				if state, _ := before.State(block); state == blocks.Free {
					fresh = append(fresh, block)
				}
			}
			if !slices.Equal(written, fresh) {
				t.Fatalf("blocks %v are written; want %v", written, fresh)
			}
			v.check(t, want)
		}
	}
}

// P13.3, P13.4: in a range with few blocks, a change is done completely or, without writing, not at all, which it is only if there are fewer blocks than it may need.
func TestNoSpace(t *testing.T) {
	random := rand.New(rand.NewPCG(3, 13))
	refused, done := 0, 0
	for _, entry := range kinds {
		for _, count := range []int{1, 2, 3, 5, 8, 12, 20, 40} {
			v, want := made(t, 7, count), model{}
			for range 300 {
				if random.IntN(6) == 0 {
					v.commit(t)
				}
				free := v.m.Number(blocks.Free)
				height, _ := v.x.Height()
				before, root, device := v.m.Clone(), v.x.Root(), v.d.Clone()
				switch e := act(t, random, v.x, want, 60, entry); e {
				case api.OK:
					done++
				case api.ErrNoSpace:
					refused++
					if free >= 3*height+3 {
						t.Fatalf("%d free blocks do not suffice for a tree of the height %d", free, height)
					}
					if !v.m.Equal(before) || v.x.Root() != root || !v.d.Equal(device) {
						t.Fatal("a change without enough blocks changes something")
					}
				default:
					t.Fatalf("a change = %d", e)
				}
				v.check(t, want)
			}
		}
	}
	if refused < 1000 || done < 1000 {
		t.Errorf("%d changes were done, and %d were not", done, refused)
	}
}

// P13.3: a change needs a block for each node that is new, and no further one.
func TestEnoughSpace(t *testing.T) {
	random := rand.New(rand.NewPCG(4, 13))
	for _, entry := range kinds {
		v, want := grown(t, random, 300, 80, entry)
		for range 60 {
			v.commit(t)
			key, value := entry(random)
			if random.IntN(2) == 0 {
				key = want.some(random)
			}
			put := random.IntN(2) == 0
			change := func(v device) api.Errno {
				if put {
					return v.x.Put(key, value)
				}
				_, e := v.x.Delete(key)
				return e
			}
			after := v.copied(t)
			must(t, "a change", change(after), api.OK)
			needed := after.m.Number(blocks.Fresh)
			for _, left := range []int{needed, max(needed-1, 0), 0} {
				full := v.copied(t)
				for full.m.Number(blocks.Free) > left {
					full.m.Take()
				}
				if left < needed {
					// Nothing is written, so the power does not fail.
					full.d.SetLimit(0)
					must(t, "a change without enough blocks", change(full), api.ErrNoSpace)
					if full.d.Down() {
						t.Fatal("the power has failed")
					}
					has(t, full.x, want)
				} else {
					must(t, "a change with enough blocks", change(full), api.OK)
				}
			}
			must(t, "a change", change(v), api.OK)
			if put {
				want[key] = value
			} else {
				delete(want, key)
			}
		}
	}
}

// P13.3: what comes before ErrNoSpace, and what behind it.
func TestErrorsOrder(t *testing.T) {
	v := made(t, 0, 1)
	must(t, "Put", v.x.Put("a", "1"), api.OK)
	v.commit(t)
	v.d.SetLimit(0)
	must(t, "Put without blocks", v.x.Put("a", "1"), api.ErrNoSpace)
	if v.d.Down() {
		t.Error("the power has failed")
	}
	must(t, "Damage", v.d.Damage(v.x.Root(), 0, 8), api.OK)
	must(t, "Put with a damaged root", v.x.Put("a", "1"), api.ErrChecksum)
	v.d.Fail()
	must(t, "Put without power", v.x.Put("a", "1"), api.ErrCrash)
	_, e := v.x.Delete("a")
	must(t, "Delete without power", e, api.ErrCrash)
	empty, e := btree.New(v.d, v.m)
	must(t, "New", e, api.OK)
	must(t, "Put without blocks and power", empty.Put("a", "1"), api.ErrNoSpace)
	w := made(t, 0, 3)
	w.d.Fail()
	must(t, "Put without power", w.x.Put("a", "1"), api.ErrCrash)
	if len(w.m.Used()) != 0 || w.x.Root() != btree.None {
		t.Error("Put without power changes something")
	}
	// The range reaches beyond the device.
	w = made(t, 0, 2)
	w.m, _ = blocks.New(1, 9)
	w.x, _ = btree.New(w.d, w.m)
	must(t, "Put", w.x.Put("a", ""), api.OK)
	must(t, "Put to a block that the device has not", w.x.Put("b", ""), api.ErrNotFound)
	w.check(t, model{"a": ""})
}

// P13.3, P13.4, P13.7: the power fails at each operation of a change.
func TestFailures(t *testing.T) {
	random := rand.New(rand.NewPCG(5, 13))
	for _, entry := range kinds {
		v, want := grown(t, random, 200, 50, entry)
		v.commit(t)
		for range 40 {
			seed := random.Uint64()
			for limit := 0; ; limit++ {
				w, to := v.copied(t), maps.Clone(want)
				w.d.SetLimit(limit)
				if e := act(t, rand.New(rand.NewPCG(seed, 13)), w.x, to, 50, entry); e == api.OK {
					break
				} else if e != api.ErrCrash {
					t.Fatalf("a change = %d", e)
				}
				if !maps.Equal(to, want) || !w.m.Equal(v.m) || w.x.Root() != v.x.Root() {
					t.Fatal("a change that fails changes something")
				}
				must(t, "Restart", w.d.Restart([]uint8{1, 0, 1, 1}), api.OK)
				w.check(t, want)
			}
			must(t, "a change", act(t, rand.New(rand.NewPCG(seed, 13)), v.x, want, 50, entry), api.OK)
			v.check(t, want)
			v.commit(t)
		}
	}
}

// P13.4, P13.7: the committed tree stays, whatever is done and lost until the next commit.
func TestCommitted(t *testing.T) {
	random := rand.New(rand.NewPCG(6, 13))
	for _, entry := range kinds {
		v, want := grown(t, random, 300, 40, entry)
		for range 15 {
			v.commit(t)
			root, kept, used := v.x.Root(), maps.Clone(want), v.m.Used()
			for range 1 + random.IntN(25) {
				must(t, "a change", act(t, random, v.x, want, 50, entry), api.OK)
			}
			d := v.d.Clone()
			d.Fail()
			choices := make([]uint8, len(d.Pending()))
			for i := range choices {
				choices[i] = uint8(random.IntN(2))
			}
			must(t, "Restart", d.Restart(choices), api.OK)
			m, e := blocks.Load(v.m.First(), v.m.Count(), used)
			must(t, "blocks.Load", e, api.OK)
			device{d, m, loaded(t, d, m, root)}.check(t, kept)
			// After Abort of the range, the old tree is there as well.
			if random.IntN(3) == 0 {
				must(t, "Abort", v.m.Abort(), api.OK)
				v.x, want = loaded(t, v.d, v.m, root), kept
				v.check(t, want)
			}
		}
	}
}

// The last four bytes of all nodes are the checksum of the Terms.
func TestChecksums(t *testing.T) {
	v, _ := grown(t, rand.New(rand.NewPCG(7, 13)), 300, 200, kinds[3])
	for _, block := range v.m.Used() {
		b, e := v.d.Read(block)
		must(t, "Read", e, api.OK)
		sum := crc32.ChecksumIEEE(b[:508])
		if b[508] != byte(sum) || b[509] != byte(sum>>8) || b[510] != byte(sum>>16) || b[511] != byte(sum>>24) {
			t.Errorf("block %d ends with % x; want %x", block, b[508:], sum)
		}
	}
}

// sealed returns the bytes of a block that begins with some bytes, and has the checksum of a node.
func sealed(s string) []byte {
	b := make([]byte, 512)
	copy(b, s)
	sum := crc32.ChecksumIEEE(b[:508])
	return append(b[:508], byte(sum), byte(sum>>8), byte(sum>>16), byte(sum>>24))
}

// Contract: a block with a checksum that is not one of a node.
func TestNoNode(t *testing.T) {
	random := rand.New(rand.NewPCG(8, 13))
	v, want := grown(t, random, 100, 30, kinds[3])
	block := v.x.Root()
	good, _ := v.d.Read(block)
	l := []string{"", strings.Repeat("\xff", 508), strings.Repeat("\x01", 508), strings.Repeat("\xf5", 508), strings.Repeat(" ", 508), strings.Repeat("leaf", 127), strings.Repeat("\x02\x00", 254), "\x01", "\x00\x01", "\x01\x01"}
	for range 200 {
		b := make([]byte, 508)
		for i := range b {
			b[i] = byte(random.Uint32())
		}
		l = append(l, string(b))
	}
	for _, s := range l {
		must(t, "Write", v.d.Write(block, sealed(s)), api.OK)
		for i, e := range errorsOf(v.x) {
			if e != api.ErrFormat {
				t.Fatalf("%d: %d; want ErrFormat", i, e)
			}
		}
		_, e := btree.Load(v.d, v.m, block)
		must(t, "Load", e, api.ErrFormat)
	}
	must(t, "Write", v.d.Write(block, good), api.OK)
	v.check(t, want)
}

// errorsOf returns the errors of all functions that read the root.
func errorsOf(x *btree.Tree) []api.Errno {
	_, _, get := x.Get("key")
	put := x.Put("key", "")
	_, del := x.Delete("key")
	_, list := x.Range("", "", 1)
	_, length := x.Len()
	_, height := x.Height()
	_, all := x.Blocks()
	return []api.Errno{get, put, del, list, length, height, all, x.Check()}
}

// Contract, P13.7: a damaged byte of any block. What reads the block has an error, and changes nothing; the rest is as before.
func TestDamage(t *testing.T) {
	random := rand.New(rand.NewPCG(9, 13))
	for _, entry := range kinds {
		v, want := grown(t, random, 200, 50, entry)
		v.commit(t)
		for _, block := range v.m.Used() {
			at, by := random.IntN(512), byte(1+random.IntN(255))
			must(t, "Damage", v.d.Damage(block, at, by), api.OK)
			n, e := v.x.Len()
			must(t, "Len", e, api.ErrChecksum)
			h, e := v.x.Height()
			must(t, "Height", e, api.ErrChecksum)
			b, e := v.x.Blocks()
			must(t, "Blocks", e, api.ErrChecksum)
			must(t, "Check", v.x.Check(), api.ErrChecksum)
			l, e := v.x.Range("", "", large)
			must(t, "Range", e, api.ErrChecksum)
			if n+h+len(b)+len(l) != 0 {
				t.Fatal("results together with an error")
			}
			on := 0
			for key, value := range want {
				got, is, e := v.x.Get(key)
				if e == api.ErrChecksum {
					on++
				}
				if is != (e == api.OK) || is && got != value || !is && got != "" || e != api.OK && e != api.ErrChecksum {
					t.Fatalf("Get = %q, %t, %d", got, is, e)
				}
				refuses(t, v, key, e)
			}
			if on == 0 {
				t.Fatal("no key is in a damaged block")
			}
			must(t, "Damage", v.d.Damage(block, at, by), api.OK)
		}
		v.check(t, want)
	}
}

// refuses tests what Put and Delete do if a node on the way has an error, or none has.
func refuses(t *testing.T, v device, key string, on api.Errno) {
	t.Helper()
	before := v.m.Clone()
	root := v.x.Root()
	if on != api.OK {
		must(t, "Put", v.x.Put(key, "new"), on)
		is, e := v.x.Delete(key)
		must(t, "Delete", e, on)
		if is || !v.m.Equal(before) || v.x.Root() != root {
			t.Fatal("an error changes something")
		}
		return
	}
	// Put reads no other nodes than Get.
	d, m := v.d.Clone(), v.m.Clone()
	x := loaded(t, d, m, root)
	must(t, "Put", x.Put(key, "new"), api.OK)
	if got, is, e := x.Get(key); got != "new" || !is || e != api.OK {
		t.Fatalf("Get = %q, %t, %d", got, is, e)
	}
}
