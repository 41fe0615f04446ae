package blocks_test

import (
	"math/rand/v2"
	"slices"
	"testing"

	"replevin/api"
	"replevin/blocks"
)

// P12.1 to P12.6
func TestExample(t *testing.T) {
	m := made(t, 10, 3)
	take := func(want int, e api.Errno) {
		t.Helper()
		if block, got := m.Take(); block != want || got != e {
			t.Fatalf("Take = %d, %d; want %d, %d", block, got, want, e)
		}
	}
	take(10, api.OK)
	take(11, api.OK)
	must(t, "Commit", m.Commit(), api.OK)
	must(t, "Give", m.Give(10), api.OK)
	take(12, api.OK)
	if s := m.Encode(); s != "\x0a\x03\x01\x06" {
		t.Errorf("Encode = %q", s)
	}
	if !slices.Equal(m.Used(), []int{11, 12}) || !slices.Equal(m.Old(), []int{10, 11}) {
		t.Errorf("Used = %v, Old = %v", m.Used(), m.Old())
	}
	take(0, api.ErrNoSpace)
	must(t, "Commit", m.Commit(), api.OK)
	take(10, api.OK)
}

// P12.1
func TestNew(t *testing.T) {
	for _, x := range []struct {
		first, count int
		e            api.Errno
	}{
		{0, 1, api.OK}, {7, 8, api.OK}, {0, 65536, api.OK}, {1 << 30, 1, api.OK}, {1 << 30, 9, api.OK},
		{-1, 1, api.ErrRange}, {1<<30 + 1, 1, api.ErrRange}, {0, 0, api.ErrRange}, {0, -1, api.ErrRange}, {0, 65537, api.ErrRange}, {-1, 0, api.ErrRange}, {large, large, api.ErrRange}, {-large - 1, -large - 1, api.ErrRange}, {5, large, api.ErrRange}, {large, 5, api.ErrRange},
	} {
		m, e := blocks.New(x.first, x.count)
		if e != x.e || (m == nil) != (e != api.OK) {
			t.Fatalf("New(%d, %d) = %d; want %d", x.first, x.count, e, x.e)
		}
		if e == api.OK {
			check(t, m, newModel(x.first, x.count))
		}
		// Load has the same errors, whatever is in use.
		for _, used := range [][]int{nil, {x.first}, {x.first, x.first}, {-7}} {
			want := x.e
			if want == api.OK && len(used) > 0 {
				want = [3]api.Errno{api.OK, api.OK, api.ErrDuplicate}[len(used)]
				if used[0] == -7 {
					want = api.ErrRange
				}
			}
			if m, e := blocks.Load(x.first, x.count, used); e != want || (m == nil) != (e != api.OK) {
				t.Fatalf("Load(%d, %d, %v) = %d; want %d", x.first, x.count, used, e, want)
			}
		}
	}
}

// P12.1
func TestLoad(t *testing.T) {
	random := rand.New(rand.NewPCG(1, 12))
	for range 200 {
		want := newModel(random.IntN(300), 1+random.IntN(40))
		var used []int
		for _, i := range random.Perm(len(want.now))[:random.IntN(len(want.now)+1)] {
			want.now[i] = true
			used = append(used, want.first+i)
		}
		want.commit()
		given := slices.Clone(used)
		m := loaded(t, want.first, len(want.now), used...)
		if !slices.Equal(used, given) {
			t.Fatal("Load changes its argument")
		}
		for i := range used {
			used[i] = -1 // the map must not have retained it
		}
		check(t, m, want)
	}
}

// P12.1: the errors of the elements come in their order.
func TestLoadErrors(t *testing.T) {
	for _, x := range []struct {
		used []int
		want api.Errno
	}{
		{[]int{5, 6}, api.OK}, {[]int{6, 5}, api.OK}, {[]int{}, api.OK},
		{[]int{4}, api.ErrRange}, {[]int{7}, api.ErrRange}, {[]int{-1}, api.ErrRange}, {[]int{large}, api.ErrRange}, {[]int{-large - 1}, api.ErrRange},
		{[]int{5, 5}, api.ErrDuplicate}, {[]int{6, 5, 6}, api.ErrDuplicate}, {[]int{5, 6, 5, 7}, api.ErrDuplicate}, {[]int{5, 7, 5}, api.ErrRange}, {[]int{7, 7}, api.ErrRange}, {[]int{5, 5, 4}, api.ErrDuplicate},
	} {
		if m, e := blocks.Load(5, 2, x.used); e != x.want || (m == nil) != (e != api.OK) {
			t.Errorf("Load of %v = %d; want %d", x.used, e, x.want)
		}
	}
}

// P12.2: there are four states only.
func TestNumber(t *testing.T) {
	m := loaded(t, 3, 9, 4, 6, 8)
	must(t, "Give", m.Give(6), api.OK)
	for range 2 {
		m.Take()
	}
	for state, want := range map[int]int{0: 4, 1: 2, 2: 2, 3: 1, 4: 0, -1: 0, 256: 0, 257: 0, -255: 0, large: 0, -large - 1: 0} {
		if n := m.Number(state); n != want {
			t.Errorf("Number(%d) = %d; want %d", state, n, want)
		}
	}
	if blocks.Free != 0 || blocks.Kept != 1 || blocks.Fresh != 2 || blocks.Given != 3 || blocks.MaxCount != 65536 {
		t.Error("the constants are others")
	}
}

// P12.3: a block that was given back is not taken before the next commit, unless it was taken after the last one.
func TestTake(t *testing.T) {
	m := loaded(t, 0, 6, 1, 3)
	for _, want := range []int{0, 2, 4} {
		if block, e := m.Take(); block != want || e != api.OK {
			t.Fatalf("Take = %d, %d; want %d", block, e, want)
		}
	}
	for _, block := range []int{1, 2, 0} {
		must(t, "Give", m.Give(block), api.OK)
		must(t, "Give again", m.Give(block), api.ErrState)
	}
	must(t, "Give of a free block", m.Give(5), api.ErrState)
	for _, want := range []int{0, 2, 5} {
		if block, e := m.Take(); block != want || e != api.OK {
			t.Fatalf("Take = %d, %d; want %d", block, e, want)
		}
	}
	before := m.Clone()
	if block, e := m.Take(); block != 0 || e != api.ErrNoSpace {
		t.Fatalf("Take = %d, %d", block, e)
	}
	for _, block := range []int{-1, 6, large, -large - 1} {
		must(t, "Give outside the range", m.Give(block), api.ErrRange)
	}
	if !m.Equal(before) {
		t.Error("operations with errors change the map")
	}
}

// P12.4: each of the states, and a generation after it.
func TestGenerations(t *testing.T) {
	all := func() *blocks.Map {
		m := loaded(t, 0, 4, 1, 2) // Fresh, Kept, Given, Free
		m.Take()
		m.Give(2)
		return m
	}
	states := func(m *blocks.Map) (l []int) {
		for block := range 4 {
			state, _ := m.State(block)
			l = append(l, state)
		}
		return l
	}
	m := all()
	if l := states(m); !slices.Equal(l, []int{blocks.Fresh, blocks.Kept, blocks.Given, blocks.Free}) {
		t.Fatalf("states %v", l)
	}
	for range 2 {
		must(t, "Commit", m.Commit(), api.OK)
		if l := states(m); !slices.Equal(l, []int{blocks.Kept, blocks.Kept, blocks.Free, blocks.Free}) {
			t.Errorf("states %v after Commit", l)
		}
	}
	if block, e := m.Take(); block != 2 || e != api.OK {
		t.Errorf("Take after Commit = %d, %d", block, e)
	}
	m = all()
	for range 2 {
		must(t, "Abort", m.Abort(), api.OK)
		if l := states(m); !slices.Equal(l, []int{blocks.Free, blocks.Kept, blocks.Kept, blocks.Free}) {
			t.Errorf("states %v after Abort", l)
		}
	}
	if block, e := m.Take(); block != 0 || e != api.OK {
		t.Errorf("Take after Abort = %d, %d", block, e)
	}
}

// P12.2 to P12.6, P12.8
func TestRandomOperations(t *testing.T) {
	random := rand.New(rand.NewPCG(2, 12))
	for range 150 {
		first, count := random.IntN(1000), 1+random.IntN(20)
		m, want := made(t, first, count), newModel(first, count)
		for range 150 {
			act(t, random, m, want)
			check(t, m, want)
		}
	}
}

// P12.3, P12.4, P12.8: the greatest range.
func TestLargest(t *testing.T) {
	const first = 1 << 30
	m := made(t, first, blocks.MaxCount)
	for i := range blocks.MaxCount {
		if block, e := m.Take(); block != first+i || e != api.OK {
			t.Fatalf("Take = %d, %d; want %d", block, e, first+i)
		}
	}
	if _, e := m.Take(); e != api.ErrNoSpace || m.Number(blocks.Fresh) != blocks.MaxCount {
		t.Fatalf("Take = %d", e)
	}
	must(t, "Commit", m.Commit(), api.OK)
	must(t, "Give", m.Give(first+blocks.MaxCount-1), api.OK)
	must(t, "Give", m.Give(first+blocks.MaxCount), api.ErrRange)
	d, e := blocks.Decode(m.Encode())
	must(t, "Decode", e, api.OK)
	if d.Number(blocks.Kept) != blocks.MaxCount-1 || d.Number(blocks.Free) != 1 || d.First() != first {
		t.Error("Decode of the greatest range")
	}
	must(t, "Commit", m.Commit(), api.OK)
	if block, e := m.Take(); block != first+blocks.MaxCount-1 || e != api.OK {
		t.Errorf("Take = %d, %d", block, e)
	}
}

// P12.5: the results are new.
func TestResults(t *testing.T) {
	m := loaded(t, 0, 9, 2, 5, 7)
	before := m.Clone()
	for _, list := range []func() []int{m.Used, m.Old} {
		l := list()
		l[0] = 9
		if !slices.Equal(list(), []int{2, 5, 7}) || !m.Equal(before) {
			t.Error("a result is memory of the map")
		}
	}
}

// P12.7
func TestClone(t *testing.T) {
	random := rand.New(rand.NewPCG(3, 12))
	for range 300 {
		first, count := random.IntN(50), 1+random.IntN(12)
		m, want := made(t, first, count), newModel(first, count)
		for range random.IntN(30) {
			act(t, random, m, want)
		}
		kept := *want
		kept.now, kept.old = slices.Clone(want.now), slices.Clone(want.old)
		c := m.Clone()
		if !c.Equal(m) || !m.Equal(c) {
			t.Fatal("a copy is not equal")
		}
		for range random.IntN(30) {
			act(t, random, m, want)
		}
		check(t, m, want)
		check(t, c, &kept)
		same := slices.Equal(want.now, kept.now) && slices.Equal(want.old, kept.old)
		if c.Equal(m) != same || m.Equal(c) != same {
			t.Fatalf("Equal = %t; want %t", !same, same)
		}
		for range 20 {
			act(t, random, c, &kept)
		}
		check(t, m, want)
		check(t, c, &kept)
	}
}

// P12.7: what was done before does not matter, only the range and the states.
func TestEqual(t *testing.T) {
	l := []*blocks.Map{nil, made(t, 0, 3), made(t, 1, 3), made(t, 0, 4), loaded(t, 0, 3, 1), loaded(t, 0, 3, 2), loaded(t, 0, 3, 1, 2)}
	fresh := made(t, 0, 3)
	fresh.Take()
	kept := fresh.Clone()
	kept.Commit()
	given := kept.Clone()
	given.Give(0)
	l = append(l, fresh, kept, given)
	for i, a := range l {
		for k, b := range l {
			if a.Equal(b) != (i == k) {
				t.Errorf("Equal of %d and %d = %t", i, k, a.Equal(b))
			}
		}
	}
	for _, m := range []*blocks.Map{given, fresh} {
		m.Commit()
		m.Abort()
	}
	if !given.Equal(made(t, 0, 3)) || !fresh.Equal(loaded(t, 0, 3, 0)) {
		t.Error("maps with the same states are not equal")
	}
}

// P12.1 to P12.7
func TestNil(t *testing.T) {
	var m *blocks.Map
	if m.First() != 0 || m.Count() != 0 || m.Number(0) != 0 || m.Number(-1) != 0 || len(m.Used()) != 0 || len(m.Old()) != 0 || m.Encode() != "" || m.Clone() != nil {
		t.Error("a nil map has values")
	}
	if state, e := m.State(0); state != 0 || e != api.ErrArgument {
		t.Errorf("State = %d, %d", state, e)
	}
	if block, e := m.Take(); block != 0 || e != api.ErrArgument {
		t.Errorf("Take = %d, %d", block, e)
	}
	must(t, "Give", m.Give(-1), api.ErrArgument)
	must(t, "Commit", m.Commit(), api.ErrArgument)
	must(t, "Abort", m.Abort(), api.ErrArgument)
	if !m.Equal(nil) || m.Equal(made(t, 0, 1)) || made(t, 0, 1).Equal(m) {
		t.Error("Equal of a nil map")
	}
	var none blocks.Map
	if _, e := none.Take(); e != api.ErrNoSpace || none.Give(0) != api.ErrRange || none.Commit() != api.OK || none.Abort() != api.OK || !none.Equal(none.Clone()) {
		t.Error("a map of no blocks")
	}
}
