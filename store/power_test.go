package store_test

import (
	"maps"
	"math/rand/v2"
	"slices"
	"strings"
	"testing"

	"replevin/api"
	"replevin/disk"
	"replevin/store"
)

// P14.5: what Commit does with the device, and what it does not.
func TestCommit(t *testing.T) {
	d := device(t, 40)
	s := formatted(t, d, 0, 40)
	unchanged := func() {
		t.Helper()
		if s.Changed() {
			t.Fatal("there are changes")
		}
		before, generation := d.Operations(), s.Generation()
		c := d.Clone()
		must(t, "Commit", s.Commit(), api.OK)
		if d.Operations() != before || s.Generation() != generation || !d.Equal(c) {
			t.Fatal("Commit without changes does something")
		}
	}
	unchanged()
	is, e := s.Delete("a")
	if is || e != api.OK {
		t.Errorf("Delete = %t, %d", is, e)
	}
	unchanged()
	must(t, "Put", s.Put("", "a"), api.ErrShort)
	unchanged()
	must(t, "Put", s.Put("a", "1"), api.OK)
	if !s.Changed() || s.Generation() != 0 {
		t.Error("Put is no change")
	}
	must(t, "Abort", s.Abort(), api.OK)
	unchanged()
	for generation := 1; generation < 6; generation++ {
		if generation == 3 {
			is, e = s.Delete("a")
			if !is || e != api.OK {
				t.Errorf("Delete = %t, %d", is, e)
			}
		} else {
			must(t, "Put", s.Put("a", "1"), api.OK) // also the value that is there
		}
		if !s.Changed() {
			t.Error("there are no changes")
		}
		before := d.Operations()
		must(t, "Commit", s.Commit(), api.OK)
		if d.Operations() != before+3 || len(d.Pending()) != 0 || s.Generation() != generation {
			t.Errorf("%d operations, generation %d", d.Operations()-before, s.Generation())
		}
		unchanged()
	}
	d.Fail()
	must(t, "Commit", s.Commit(), api.OK)
	must(t, "Abort", s.Abort(), api.ErrCrash)
}

// P14.5: the root is written when the tree is durable, and nothing else is written then.
func TestCommitOrder(t *testing.T) {
	d := device(t, 40)
	s := formatted(t, d, 0, 40)
	must(t, "Put", s.Put("a", "1"), api.OK)
	d.SetLimit(2)
	must(t, "Commit", s.Commit(), api.ErrCrash)
	if l := d.Pending(); len(l) != 1 || l[0].Block != 1 {
		t.Errorf("%d pending writes", len(l))
	}
}

// Example 2, P14.5 to P14.7: Commit fails at each of its operations.
func TestCommitFails(t *testing.T) {
	for limit := range 3 {
		for _, choice := range []uint8{disk.Lost, disk.Whole} {
			d := device(t, 40)
			s := formatted(t, d, 0, 40)
			must(t, "Put", s.Put("a", "1"), api.OK)
			d.SetLimit(limit)
			must(t, "Commit", s.Commit(), api.ErrCrash)
			refuses(t, s, api.ErrCrash)
			if s.Generation() != 0 || !s.Changed() {
				t.Errorf("generation %d, %t", s.Generation(), s.Changed())
			}
			must(t, "Abort", s.Abort(), api.ErrCrash)
			must(t, "Restart", d.Restart([]uint8{choice, choice, choice, choice}), api.OK)
			must(t, "Abort", s.Abort(), api.ErrState)
			refuses(t, s, api.ErrCrash)
			want, generation := model{}, 0
			if limit == 2 && choice == disk.Whole {
				want, generation = model{"a": "1"}, 1
			}
			o := opened(t, d, 0, 40)
			if o.Generation() != generation {
				t.Errorf("generation %d; want %d", o.Generation(), generation)
			}
			check(t, o, want)
		}
	}
}

// P14.5: there is no generation behind the last one that a frame can have.
func TestLastGeneration(t *testing.T) {
	d := device(t, 40)
	formatted(t, d, 0, 40)
	write(t, d, 1, rootBytes(t, 14, 0, 1<<40-1, signed(-1)))
	s := opened(t, d, 0, 40)
	must(t, "Commit", s.Commit(), api.OK)
	must(t, "Put", s.Put("a", "1"), api.OK)
	must(t, "Commit", s.Commit(), api.ErrRange)
	refuses(t, s, api.ErrRange)
	if s.Generation() != 1<<40-1 || !s.Changed() {
		t.Errorf("generation %d", s.Generation())
	}
	must(t, "Abort", s.Abort(), api.ErrState)
	d.Fail()
	must(t, "Abort", s.Abort(), api.ErrCrash)
	must(t, "Restart", d.Restart(nil), api.OK)
	check(t, opened(t, d, 0, 40), model{})
}

// P14.4 to P14.6: a change that has an error breaks the transaction, and Abort mends it.
func TestBroken(t *testing.T) {
	d := device(t, 20)
	s := formatted(t, d, 0, 20)
	must(t, "Put", s.Put("a", text(400)), api.OK)
	must(t, "Commit", s.Commit(), api.OK)
	free := s.Free()
	for _, change := range []bool{false, true} {
		if change {
			must(t, "Put", s.Put("b", "2"), api.OK)
		}
		must(t, "Put", s.Put("c", text(20000)), api.ErrNoSpace)
		refuses(t, s, api.ErrNoSpace)
		if s.Changed() != change || s.Generation() != 1 {
			t.Errorf("Changed = %t", s.Changed())
		}
		must(t, "Abort", s.Abort(), api.OK)
		if s.Free() != free || s.Changed() {
			t.Errorf("%d blocks are free", s.Free())
		}
		check(t, s, model{"a": text(400)})
	}
	// The power fails, and comes back.
	must(t, "Put", s.Put("b", "2"), api.OK)
	d.SetLimit(0)
	must(t, "Put", s.Put("c", "3"), api.ErrCrash)
	refuses(t, s, api.ErrCrash)
	must(t, "Abort", s.Abort(), api.ErrCrash)
	if !s.Changed() {
		t.Error("Abort with an error changes something")
	}
	must(t, "Restart", d.Restart(nil), api.OK)
	refuses(t, s, api.ErrCrash)
	must(t, "Abort", s.Abort(), api.OK)
	check(t, s, model{"a": text(400)})
	d.SetLimit(0)
	_, e := s.Delete("a")
	must(t, "Delete", e, api.ErrCrash)
	refuses(t, s, api.ErrCrash)
	must(t, "Restart", d.Restart(nil), api.OK)
	must(t, "Abort", s.Abort(), api.OK)
	// Get and Keys do not break it.
	d.Fail()
	_, _, e = s.Get("a")
	must(t, "Get", e, api.ErrCrash)
	_, e = s.Keys("", "", 1)
	must(t, "Keys", e, api.ErrCrash)
	must(t, "Broken", s.Broken(), api.OK)
	must(t, "Restart", d.Restart(nil), api.OK)
	must(t, "Put", s.Put("b", "2"), api.OK)
	must(t, "Commit", s.Commit(), api.OK)
	check(t, s, model{"a": text(400), "b": "2"})
	check(t, opened(t, d, 0, 20), model{"a": text(400), "b": "2"})
}

// P14.5: Abort uses nothing of the device but whether it has power.
func TestAbortOfDamaged(t *testing.T) {
	d := device(t, 20)
	s := formatted(t, d, 0, 20)
	must(t, "Put", s.Put("a", "1"), api.OK)
	must(t, "Commit", s.Commit(), api.OK)
	must(t, "Put", s.Put("b", "2"), api.OK)
	root := rootOf(t, d, 0, 1)
	must(t, "Damage", d.Damage(root, 0, 1), api.OK)
	must(t, "Abort", s.Abort(), api.OK)
	l, e := s.Keys("", "", 0)
	must(t, "Keys of none", e, api.OK)
	_, _, e = s.Get("a")
	must(t, "Get", e, api.ErrChecksum)
	k, e := s.Keys("", "", 1)
	must(t, "Keys", e, api.ErrChecksum)
	if len(l)+len(k) > 0 {
		t.Error("Keys returns keys")
	}
	must(t, "Put", s.Put("b", ""), api.ErrChecksum)
	must(t, "Abort", s.Abort(), api.OK)
	must(t, "Damage", d.Damage(root, 0, 1), api.OK)
	check(t, s, model{"a": "1"})
}

// P14.7: the power fails at any operation, again and again, and the store has the map of a commit.
func TestPower(t *testing.T) {
	random := rand.New(rand.NewPCG(3, 14))
	both := [2]int{}
	for range 12 {
		d := device(t, 130)
		for block := range 130 {
			write(t, d, block, strings.Repeat("x", disk.BlockSize))
		}
		s, last := formatted(t, d, 4, 120), model{}
		for range 60 {
			d.SetLimit(random.IntN(60))
			before, now, e := s.Generation(), maps.Clone(last), api.OK
			for e == api.OK {
				if random.IntN(8) == 0 {
					if e = s.Commit(); e == api.OK {
						last, before = maps.Clone(now), s.Generation()
					}
					continue
				}
				attempt := maps.Clone(now)
				if _, e = act(t, random, s, attempt); e == api.OK {
					now = attempt
				} else {
					now = last // it cannot become durable any more
				}
			}
			if e == api.ErrNoSpace {
				d.Fail()
			} else {
				must(t, "an operation", e, api.ErrCrash)
			}
			choices := make([]uint8, len(d.Pending()))
			for i := range choices {
				choices[i] = uint8(random.IntN(2))
			}
			must(t, "Restart", d.Restart(choices), api.OK)
			s = opened(t, d, 4, 120)
			switch s.Generation() {
			case before:
				both[0]++
			case before + 1:
				both[1]++
				last = now
			default:
				t.Fatalf("generation %d behind %d", s.Generation(), before)
			}
			check(t, s, last)
		}
		for block := range 130 {
			if (block < 4 || block >= 124) && read(t, d, block) != strings.Repeat("x", disk.BlockSize) {
				t.Fatalf("block %d is written", block)
			}
		}
	}
	if both[0] < 50 || both[1] < 5 {
		t.Errorf("%d", both)
	}
}

// P14.4, P14.7: the blocks of the last commit are not written before the next one.
func TestCommitted(t *testing.T) {
	random := rand.New(rand.NewPCG(4, 14))
	d := device(t, 200)
	s, want := formatted(t, d, 0, 200), model{}
	for range 20 {
		must(t, "Commit", s.Commit(), api.OK)
		kept := maps.Clone(want)
		generation := s.Generation()
		own, e := treeOrNone(t, d, generation)
		must(t, "Blocks", e, api.OK)
		for range random.IntN(15) {
			acts(t, random, s, want)
		}
		for _, w := range d.Pending() {
			if w.Block < 2 || slices.Contains(own, w.Block) {
				t.Fatalf("block %d is written", w.Block)
			}
		}
		o, e := store.Open(d, 0, 200)
		must(t, "Open", e, api.OK)
		check(t, o, kept)
	}
}

// treeOrNone returns the blocks of the tree of a generation.
func treeOrNone(t *testing.T, d *disk.Disk, generation int) ([]int, api.Errno) {
	t.Helper()
	if rootOf(t, d, 0, generation) < 0 {
		return nil, api.OK
	}
	return treeOf(t, d, 0, 200, generation).Blocks()
}
