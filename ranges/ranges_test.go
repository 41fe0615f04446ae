package ranges_test

import (
	"math/rand/v2"
	"slices"
	"strings"
	"testing"

	"replevin/api"
	"replevin/ranges"
)

const large = int(^uint(0) >> 1)

// P7.1, P7.6
func TestOf(t *testing.T) {
	random := rand.New(rand.NewPCG(1, 1))
	for _, base := range bases() {
		for range 1500 {
			m := someModel(random, base)
			check(t, set(t, m.spread(random)...), m)
		}
	}
}

// P7.1
func TestOfSomeRanges(t *testing.T) {
	const most = ranges.MaxPosition
	if ranges.MaxRanges != 1024 || most != 1099511627776 {
		t.Error(ranges.MaxRanges, most)
	}
	for _, x := range []struct{ l, want []span }{
		{nil, nil},
		{[]span{{}}, nil},
		{[]span{{From: 5, To: 5}, {From: most, To: most}}, nil},
		{[]span{{From: 0, To: most}}, []span{{From: 0, To: most}}},
		{[]span{{From: most - 1, To: most}}, []span{{From: most - 1, To: most}}},
		{[]span{{From: 3, To: 4}, {From: 8, To: 10}, {From: 9, To: 12}}, []span{{From: 3, To: 4}, {From: 8, To: 12}}},
		{[]span{{From: 5, To: 6}, {From: 4, To: 5}}, []span{{From: 4, To: 6}}},
		{[]span{{From: 5, To: 6}, {From: 3, To: 4}}, []span{{From: 3, To: 4}, {From: 5, To: 6}}},
		{[]span{{From: 0, To: 10}, {From: 2, To: 3}, {From: 10, To: 11}}, []span{{From: 0, To: 11}}},
		{[]span{{From: 0, To: 10}, {From: 0, To: 3}, {From: 0, To: 10}}, []span{{From: 0, To: 10}}},
		{[]span{{From: 0, To: 2}, {From: 2, To: 2}, {From: 3, To: 3}, {From: 3, To: 4}}, []span{{From: 0, To: 2}, {From: 3, To: 4}}},
	} {
		s := set(t, x.l...)
		if !slices.Equal(s.Ranges(), x.want) {
			t.Errorf("Of(%v) has the ranges %v; want %v", x.l, s.Ranges(), x.want)
		}
	}
	if s := set(t, span{From: 0, To: most}); s.Len() != most || !s.Has(0) || !s.Has(most-1) || s.Has(most) || s.Has(-1) || s.Has(large) || s.Has(-large-1) {
		t.Error("the set of all positions")
	}
}

// P7.1
func TestErrorsOfOf(t *testing.T) {
	const most = ranges.MaxPosition
	good := span{From: 1, To: 2}
	for _, r := range []span{
		{From: -1, To: 2}, {From: -1, To: -1}, {From: -2, To: -1}, {From: 3, To: 2}, {From: 1, To: 0}, {From: 0, To: -1}, {From: 0, To: most + 1}, {From: most + 1, To: most + 1}, {From: most, To: most - 1},
		{From: large, To: large}, {From: -large - 1, To: large}, {From: 0, To: large}, {From: 0, To: -large - 1}, {From: large, To: -large - 1},
	} {
		for _, l := range [][]span{{r}, {good, r}, {r, good}, append(apart(ranges.MaxRanges+1, 0), r)} {
			if s, e := ranges.Of(l...); !s.Empty() || e != api.ErrRange {
				t.Errorf("Of with %v = %v, %d; want ErrRange", r, s.Ranges(), e)
			}
		}
	}
	l := apart(ranges.MaxRanges, 7)
	if s := set(t, l...); !slices.Equal(s.Ranges(), l) || s.Len() != ranges.MaxRanges {
		t.Errorf("Of as many ranges as permitted has %d", len(s.Ranges()))
	}
	more := apart(ranges.MaxRanges+1, 7)
	slices.Reverse(more)
	for _, l := range [][]span{more, apart(ranges.MaxRanges+2, 0), apart(5000, 0)} {
		if s, e := ranges.Of(l...); !s.Empty() || e != api.ErrLimit {
			t.Errorf("Of %d ranges = %d; want ErrLimit", len(l), e)
		}
	}
	// What counts is the ranges of the set.
	joined := append(apart(5000, 0), apart(5000, 1)...)
	if s := set(t, joined...); !slices.Equal(s.Ranges(), []span{{From: 0, To: 10000}}) {
		t.Errorf("Of %d ranges that form one has %d", len(joined), len(s.Ranges()))
	}
	repeated := append(apart(ranges.MaxRanges, 0), apart(ranges.MaxRanges, 0)...)
	if s := set(t, append(repeated, make([]span, 3000)...)...); len(s.Ranges()) != ranges.MaxRanges {
		t.Errorf("Of ranges that are repeated, or empty, has %d", len(s.Ranges()))
	}
}

// P7.1
func TestEmptySet(t *testing.T) {
	for _, s := range []ranges.Set{{}, set(t), set(t, span{From: 9, To: 9})} {
		for _, base := range bases() {
			check(t, s, model{base: base})
		}
		if l, e := s.Blocks(1); len(l) != 0 || e != api.OK {
			t.Errorf("Blocks = %v, %d", l, e)
		}
		if !s.Clip(span{From: -large - 1, To: large}).Empty() || !ranges.Equal(s, ranges.Set{}) || !ranges.Equal(ranges.Set{}, s) {
			t.Error("an empty set")
		}
	}
}

// P7.1, P7.6
func TestEqual(t *testing.T) {
	random := rand.New(rand.NewPCG(2, 2))
	sets := []ranges.Set{
		{}, set(t, span{From: 0, To: 1}), set(t, span{From: 1, To: 2}), set(t, span{From: 0, To: 2}), set(t, span{From: 0, To: 3}), set(t, span{From: 0, To: 1}, span{From: 2, To: 3}),
		set(t, span{From: 0, To: 1}, span{From: 3, To: 4}), set(t, span{From: 0, To: 1}, span{From: 2, To: 4}), set(t, span{From: 0, To: 1}, span{From: 2, To: 3}, span{From: 4, To: 5}),
	}
	for i, a := range sets {
		for j, b := range sets {
			if ranges.Equal(a, b) != (i == j) || (a.Text() == b.Text()) != (i == j) {
				t.Errorf("Equal of %q and %q = %t", a.Text(), b.Text(), ranges.Equal(a, b))
			}
		}
	}
	for range 500 {
		m := someModel(random, 0)
		a, b := set(t, m.spread(random)...), set(t, m.spread(random)...)
		other := m
		at := random.IntN(len(m.is))
		other.is[at] = !other.is[at]
		if c := set(t, other.spread(random)...); !ranges.Equal(a, b) || ranges.Equal(a, c) || ranges.Equal(c, a) {
			t.Fatalf("Equal of %q, %q and %q", a.Text(), b.Text(), c.Text())
		}
	}
}

// P7.6
func TestRangesAreNew(t *testing.T) {
	m := model{base: 0, is: [90]bool{3: true, 4: true, 7: true}}
	given := m.ranges()
	s := set(t, given...)
	clear(given)
	check(t, s, m)
	clear(s.Ranges())
	check(t, s, m)
	moved, _ := s.Shift(0)
	union, _ := ranges.Union(s, ranges.Set{})
	l := moved.Ranges()
	l[0].From = 77
	union.Ranges()[0].To = 78
	s.Clip(span{From: 0, To: 90}).Ranges()[0].From = 79
	check(t, s, m)
	check(t, moved, m)
	check(t, union, m)
	// A set that is combined and clipped stays as it is.
	ranges.Union(s, set(t, span{From: 5, To: 7}))
	ranges.Minus(s, set(t, span{From: 3, To: 7}))
	s.Clip(span{From: 4, To: 5})
	s.Shift(3)
	check(t, s, m)
}

// P7.3
func TestShift(t *testing.T) {
	random := rand.New(rand.NewPCG(3, 3))
	for _, base := range bases() {
		for range 500 {
			m := someModel(random, base)
			if len(m.positions()) == 0 {
				continue
			}
			s := set(t, m.ranges()...)
			by := random.IntN(200) - 100
			l := m.positions()
			moved, e := s.Shift(by)
			if l[0]+by < 0 || l[len(l)-1]+by >= ranges.MaxPosition {
				if !moved.Empty() || e != api.ErrRange {
					t.Fatalf("%v: Shift(%d) = %v, %d; want ErrRange", m.ranges(), by, moved.Ranges(), e)
				}
				continue
			}
			other := m
			other.base += by
			if e != api.OK {
				t.Fatalf("%v: Shift(%d) = %d", m.ranges(), by, e)
			}
			check(t, moved, other)
			check(t, s, m)
		}
	}
}

// P7.3
func TestShiftByManyPositions(t *testing.T) {
	const most = ranges.MaxPosition
	for _, x := range []struct {
		l    []span
		by   int
		want []span
		e    api.Errno
	}{
		{nil, large, nil, api.OK}, {nil, -large - 1, nil, api.OK}, {nil, 0, nil, api.OK}, {nil, -1, nil, api.OK},
		{[]span{{From: 3, To: 5}, {From: 8, To: 12}}, -3, []span{{From: 0, To: 2}, {From: 5, To: 9}}, api.OK},
		{[]span{{From: 3, To: 5}, {From: 8, To: 12}}, -4, nil, api.ErrRange},
		{[]span{{From: 3, To: 5}, {From: 8, To: 12}}, most - 12, []span{{From: most - 9, To: most - 7}, {From: most - 4, To: most}}, api.OK},
		{[]span{{From: 3, To: 5}, {From: 8, To: 12}}, most - 11, nil, api.ErrRange},
		{[]span{{From: 0, To: most}}, 0, []span{{From: 0, To: most}}, api.OK}, {[]span{{From: 0, To: most}}, 1, nil, api.ErrRange}, {[]span{{From: 0, To: most}}, -1, nil, api.ErrRange},
		{[]span{{From: 0, To: 1}}, most - 1, []span{{From: most - 1, To: most}}, api.OK}, {[]span{{From: 0, To: 1}}, most, nil, api.ErrRange},
		{[]span{{From: most - 1, To: most}}, 1 - most, []span{{From: 0, To: 1}}, api.OK}, {[]span{{From: most - 1, To: most}}, -most, nil, api.ErrRange},
		{[]span{{From: 5, To: 6}}, large, nil, api.ErrRange}, {[]span{{From: 5, To: 6}}, -large - 1, nil, api.ErrRange}, {[]span{{From: 0, To: 1}}, -large - 1, nil, api.ErrRange}, {[]span{{From: most - 1, To: most}}, large, nil, api.ErrRange},
	} {
		s, e := set(t, x.l...).Shift(x.by)
		if !slices.Equal(s.Ranges(), x.want) || e != x.e {
			t.Errorf("%v: Shift(%d) = %v, %d; want %v, %d", x.l, x.by, s.Ranges(), e, x.want, x.e)
		}
	}
}

// P7.3
func TestClip(t *testing.T) {
	random := rand.New(rand.NewPCG(4, 4))
	for _, base := range bases() {
		for range 1000 {
			m := someModel(random, base)
			r := span{From: base - 5 + random.IntN(100), To: base - 5 + random.IntN(100)}
			switch random.IntN(12) {
			case 0:
				r.From = -large - 1
			case 1:
				r.To = large
			case 2:
				r.From = large
			case 3:
				r.To = -large - 1
			}
			other := m
			for i := range other.is {
				other.is[i] = m.is[i] && base+i >= r.From && base+i < r.To
			}
			s := set(t, m.ranges()...)
			check(t, s.Clip(r), other)
			check(t, s, m)
		}
	}
	all := set(t, span{From: 0, To: ranges.MaxPosition})
	if s := all.Clip(span{From: -large - 1, To: large}); !ranges.Equal(s, all) {
		t.Errorf("Clip of all positions = %v", s.Ranges())
	}
}

// P7.4, P7.6
func TestChanged(t *testing.T) {
	random := rand.New(rand.NewPCG(5, 5))
	for range 2000 {
		a := make([]byte, random.IntN(80))
		for i := range a {
			a[i] = byte(random.IntN(2))
		}
		b := make([]byte, random.IntN(80))
		copy(b, a)
		for range random.IntN(6) {
			if len(b) > 0 {
				b[random.IntN(len(b))] = byte(random.IntN(3))
			}
		}
		m := model{}
		for i := range max(len(a), len(b)) {
			m.is[i] = i >= len(a) || i >= len(b) || a[i] != b[i]
		}
		before, after := slices.Clone(a), slices.Clone(b)
		s, e := ranges.Changed(a, b)
		if e != api.OK || !slices.Equal(a, before) || !slices.Equal(b, after) {
			t.Fatalf("Changed(%q, %q) = %d", a, b, e)
		}
		check(t, s, m)
		// The changed positions of b make b of a.
		made := make([]byte, len(b))
		copy(made, a)
		for _, r := range s.Clip(span{From: 0, To: len(b)}).Ranges() {
			copy(made[r.From:r.To], b[r.From:r.To])
		}
		if !slices.Equal(made, b) {
			t.Fatalf("the changes of %q and %q make %q", a, b, made)
		}
	}
}

// P7.4
func TestChangedOfSomeTexts(t *testing.T) {
	for _, x := range []struct {
		a, b string
		want []span
	}{
		{"", "", nil}, {"abc", "abc", nil}, {"", "ab", []span{{From: 0, To: 2}}}, {"ab", "", []span{{From: 0, To: 2}}},
		{"abcd", "axc", []span{{From: 1, To: 2}, {From: 3, To: 4}}}, {"abc", "abx", []span{{From: 2, To: 3}}}, {"abx", "abcd", []span{{From: 2, To: 4}}},
		{"a\x00", "a", []span{{From: 1, To: 2}}}, {"\xff", "\x00", []span{{From: 0, To: 1}}},
	} {
		if s, e := ranges.Changed([]byte(x.a), []byte(x.b)); !slices.Equal(s.Ranges(), x.want) || e != api.OK {
			t.Errorf("Changed(%q, %q) = %v, %d", x.a, x.b, s.Ranges(), e)
		}
	}
}

// P7.4
func TestErrorsOfChanged(t *testing.T) {
	longest := make([]byte, api.MaxValue)
	long := make([]byte, api.MaxValue+1)
	striped := []byte(strings.Repeat("\x00\x01", api.MaxValue/2))
	for _, x := range []struct {
		a, b []byte
		e    api.Errno
	}{
		{long, nil, api.ErrLong}, {nil, long, api.ErrLong}, {long, long, api.ErrLong}, {long, longest, api.ErrLong}, {append(striped, 0), longest, api.ErrLong}, {longest, append(striped, 0), api.ErrLong},
		{striped, longest, api.ErrLimit}, {longest, striped, api.ErrLimit}, {striped[:2050], longest[:2050], api.ErrLimit}, {striped[:2049], longest[:2049], api.OK}, {striped[:2048], longest[:2048], api.OK},
		{striped[:2047], longest[:2049], api.OK}, {striped[:2049], longest[:2050], api.ErrLimit}, {longest[:2050], striped[:2048], api.OK},
	} {
		s, e := ranges.Changed(x.a, x.b)
		if e != x.e || e != api.OK && !s.Empty() {
			t.Errorf("Changed of %d and %d bytes = %d, want %d", len(x.a), len(x.b), e, x.e)
		}
	}
	if s, e := ranges.Changed(nil, longest); !slices.Equal(s.Ranges(), []span{{From: 0, To: api.MaxValue}}) || e != api.OK {
		t.Errorf("Changed of the longest bytes = %v, %d", s.Ranges(), e)
	}
	if s, e := ranges.Changed(striped[:2048], longest[:2048]); len(s.Ranges()) != 1024 || e != api.OK {
		t.Errorf("Changed = %d ranges, %d", len(s.Ranges()), e)
	}
}

// P7.4, P7.6
func TestBlocks(t *testing.T) {
	random := rand.New(rand.NewPCG(6, 6))
	for _, base := range bases() {
		for range 1000 {
			m := someModel(random, base)
			size := 1 + random.IntN(20)
			switch random.IntN(10) {
			case 0:
				size = ranges.MaxPosition
			case 1:
				size = ranges.MaxPosition - 1 - random.IntN(90)
			}
			var want []int
			for _, at := range m.positions() {
				want = append(want, at/size)
			}
			want = slices.Compact(want)
			if l, e := set(t, m.ranges()...).Blocks(size); !slices.Equal(l, want) || e != api.OK {
				t.Fatalf("%v: Blocks(%d) = %v, %d; want %v", m.ranges(), size, l, e, want)
			}
		}
	}
}

// P7.4
func TestErrorsOfBlocks(t *testing.T) {
	const most = ranges.MaxPosition
	all := set(t, span{From: 0, To: most})
	for _, s := range []ranges.Set{{}, set(t, span{From: 3, To: 4}), all} {
		for _, size := range []int{0, -1, most + 1, large, -large - 1} {
			if l, e := s.Blocks(size); len(l) != 0 || e != api.ErrRange {
				t.Errorf("%s: Blocks(%d) = %v, %d; want ErrRange", s.Text(), size, l, e)
			}
		}
	}
	for _, x := range []struct {
		l     []span
		size  int
		count int
		e     api.Errno
	}{
		{[]span{{From: 0, To: 100000}}, 1, 100000, api.OK},
		{[]span{{From: 0, To: 100001}}, 1, 0, api.ErrLimit},
		{[]span{{From: 5, To: 50000}, {From: 60000, To: 110005}}, 1, 100000, api.OK},
		{[]span{{From: 5, To: 50000}, {From: 60000, To: 110006}}, 1, 0, api.ErrLimit},
		// A block of two ranges counts once.
		{[]span{{From: 0, To: 99999}, {From: 100000, To: 200000}}, 2, 100000, api.OK},
		{[]span{{From: 0, To: 99999}, {From: 100000, To: 200001}}, 2, 0, api.ErrLimit},
		{[]span{{From: 0, To: 199999}, {From: 200000, To: 200001}}, 2, 0, api.ErrLimit},
		{[]span{{From: 0, To: 199997}, {From: 199998, To: 199999}}, 2, 100000, api.OK},
		{[]span{{From: 0, To: most}}, 1, 0, api.ErrLimit},
		{[]span{{From: 0, To: most}}, most, 1, api.OK},
		{[]span{{From: 0, To: most}}, most - 1, 2, api.OK},
		{[]span{{From: 1, To: most}}, most/100000 + 1, 100000, api.OK},
		{[]span{{From: 1, To: most}}, most / 100000, 0, api.ErrLimit},
	} {
		l, e := set(t, x.l...).Blocks(x.size)
		if len(l) != x.count || e != x.e {
			t.Errorf("%v: Blocks(%d) has %d numbers, %d; want %d, %d", x.l, x.size, len(l), e, x.count, x.e)
		}
	}
}
