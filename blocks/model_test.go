package blocks_test

import (
	"encoding/binary"
	"math/rand/v2"
	"slices"
	"testing"

	"replevin/api"
	"replevin/blocks"
)

const large = int(^uint(0) >> 1)

// The model of a map says of each block whether it is in use now, and whether it was at the last commit.
type model struct {
	first int
	now   []bool
	old   []bool
}

func newModel(first, count int) *model {
	return &model{first, make([]bool, count), make([]bool, count)}
}

func (m *model) state(i int) int {
	switch {
	case m.now[i] && m.old[i]:
		return 1
	case m.now[i]:
		return 2
	case m.old[i]:
		return 3
	}
	return 0
}

func (m *model) take() (int, api.Errno) {
	for i := range m.now {
		if !m.now[i] && !m.old[i] {
			m.now[i] = true
			return m.first + i, api.OK
		}
	}
	return 0, api.ErrNoSpace
}

func (m *model) give(block int) api.Errno {
	i := block - m.first
	switch {
	case block < m.first || i >= len(m.now):
		return api.ErrRange
	case !m.now[i]:
		return api.ErrState
	}
	m.now[i] = false
	return api.OK
}

func (m *model) commit() { m.old = slices.Clone(m.now) }

func (m *model) abort() { m.now = slices.Clone(m.old) }

func (m *model) list(use []bool) []int {
	var l []int
	for i, is := range use {
		if is {
			l = append(l, m.first+i)
		}
	}
	return l
}

func (m *model) encode() string {
	b := binary.AppendUvarint(nil, uint64(m.first))
	b = binary.AppendUvarint(b, uint64(len(m.now)))
	b = binary.AppendUvarint(b, uint64((len(m.now)+7)/8))
	for i, is := range m.now {
		if i%8 == 0 {
			b = append(b, 0)
		}
		if is {
			b[len(b)-1] |= 1 << (i % 8)
		}
	}
	return string(b)
}

func made(t *testing.T, first, count int) *blocks.Map {
	t.Helper()
	m, e := blocks.New(first, count)
	if m == nil || e != api.OK {
		t.Fatalf("New(%d, %d) = %d", first, count, e)
	}
	return m
}

func loaded(t *testing.T, first, count int, used ...int) *blocks.Map {
	t.Helper()
	m, e := blocks.Load(first, count, used)
	if m == nil || e != api.OK {
		t.Fatalf("Load(%d, %d, %v) = %d", first, count, used, e)
	}
	return m
}

// must fails if an operation has not the result that it should have.
func must(t *testing.T, what string, e, want api.Errno) {
	t.Helper()
	if e != want {
		t.Fatalf("%s = %d; want %d", what, e, want)
	}
}

// check tests what a map says of itself.
func check(t *testing.T, m *blocks.Map, want *model) {
	t.Helper()
	count := len(want.now)
	if m.First() != want.first || m.Count() != count {
		t.Fatalf("First = %d, Count = %d; want %d, %d", m.First(), m.Count(), want.first, count)
	}
	var numbers [4]int
	for i := range count {
		numbers[want.state(i)]++
		if state, e := m.State(want.first + i); state != want.state(i) || e != api.OK {
			t.Fatalf("State(%d) = %d, %d; want %d", want.first+i, state, e, want.state(i))
		}
	}
	for _, block := range []int{want.first - 1, want.first + count, -1, -large - 1, large} {
		if state, e := m.State(block); state != 0 || e != api.ErrRange {
			t.Fatalf("State(%d) = %d, %d", block, state, e)
		}
	}
	for state, number := range numbers {
		if n := m.Number(state); n != number {
			t.Fatalf("Number(%d) = %d; want %d", state, n, number)
		}
	}
	if l := m.Used(); !slices.Equal(l, want.list(want.now)) {
		t.Fatalf("Used = %v; want %v", l, want.list(want.now))
	}
	if l := m.Old(); !slices.Equal(l, want.list(want.old)) {
		t.Fatalf("Old = %v; want %v", l, want.list(want.old))
	}
	if s := m.Encode(); s != want.encode() {
		t.Fatalf("Encode = %q; want %q", s, want.encode())
	}
}

// act does the same with a map and with its model.
func act(t *testing.T, random *rand.Rand, m *blocks.Map, want *model) {
	t.Helper()
	switch random.IntN(12) {
	case 0:
		must(t, "Commit", m.Commit(), api.OK)
		want.commit()
	case 1:
		must(t, "Abort", m.Abort(), api.OK)
		want.abort()
	case 2, 3, 4, 5, 6:
		block, e := want.take()
		if b, got := m.Take(); b != block || got != e {
			t.Fatalf("Take = %d, %d; want %d, %d", b, got, block, e)
		}
	default:
		block := want.first - 1 + random.IntN(len(want.now)+2)
		must(t, "Give", m.Give(block), want.give(block))
	}
}
