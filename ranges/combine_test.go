package ranges_test

import (
	"math/rand/v2"
	"testing"

	"replevin/api"
	"replevin/ranges"
)

// P7.2, P7.6
func TestCombinations(t *testing.T) {
	random := rand.New(rand.NewPCG(7, 7))
	for _, base := range bases() {
		for range 1500 {
			m, n := someModel(random, base), someModel(random, base)
			if random.IntN(3) == 0 {
				// A set that is often a part of the other one, or has nothing of it.
				value := random.IntN(2) == 0
				n = both(m, n, func(a, b bool) bool { return a == value && b })
			}
			a, b := set(t, m.ranges()...), set(t, n.ranges()...)
			for name, x := range map[string]struct {
				combine func(a, b ranges.Set) (ranges.Set, api.Errno)
				in      func(a, b bool) bool
			}{
				"Union": {ranges.Union, func(a, b bool) bool { return a || b }},
				"Minus": {ranges.Minus, func(a, b bool) bool { return a && !b }},
				"Both":  {ranges.Both, func(a, b bool) bool { return a && b }},
			} {
				s, e := x.combine(a, b)
				if e != api.OK {
					t.Fatalf("%s of %q and %q = %d", name, m.text(), n.text(), e)
				}
				check(t, s, both(m, n, x.in))
			}
			check(t, a, m)
			check(t, b, n)
			common := len(both(m, n, func(a, b bool) bool { return a && b }).positions()) > 0
			missing := len(both(m, n, func(a, b bool) bool { return !a && b }).positions()) > 0
			if ranges.Meets(a, b) != common || ranges.Covers(a, b) == missing {
				t.Fatalf("%q and %q: Meets = %t, Covers = %t", m.text(), n.text(), ranges.Meets(a, b), ranges.Covers(a, b))
			}
		}
	}
}

// P7.6
func TestLawsOfCombinations(t *testing.T) {
	random := rand.New(rand.NewPCG(8, 8))
	of := func(s ranges.Set, e api.Errno) ranges.Set {
		if e != api.OK {
			t.Fatal(e)
		}
		return s
	}
	for range 500 {
		var l [3]ranges.Set
		for i := range l {
			l[i] = set(t, someModel(random, 0).ranges()...)
		}
		a, b, c := l[0], l[1], l[2]
		for _, f := range []func(a, b ranges.Set) (ranges.Set, api.Errno){ranges.Union, ranges.Both} {
			if !ranges.Equal(of(f(a, b)), of(f(b, a))) || !ranges.Equal(of(f(of(f(a, b)), c)), of(f(a, of(f(b, c))))) {
				t.Fatalf("combinations of %q, %q and %q", a.Text(), b.Text(), c.Text())
			}
		}
		if ranges.Meets(of(ranges.Minus(a, b)), b) {
			t.Fatalf("Minus(%q, %q) has an element of the second", a.Text(), b.Text())
		}
	}
}

// P7.2
func TestCombinationsOfNothing(t *testing.T) {
	all := set(t, span{From: 0, To: ranges.MaxPosition})
	for _, a := range []ranges.Set{{}, set(t, span{From: 3, To: 5}), all} {
		for _, b := range []ranges.Set{{}, all} {
			union, e := ranges.Union(a, b)
			want := a
			if !b.Empty() {
				want = all
			}
			if !ranges.Equal(union, want) || e != api.OK {
				t.Errorf("Union(%q, %q) = %q, %d", a.Text(), b.Text(), union.Text(), e)
			}
			minus, e := ranges.Minus(a, b)
			if want = a; !b.Empty() {
				want = ranges.Set{}
			}
			if !ranges.Equal(minus, want) || e != api.OK {
				t.Errorf("Minus(%q, %q) = %q, %d", a.Text(), b.Text(), minus.Text(), e)
			}
			if ranges.Meets(a, b) != (!a.Empty() && !b.Empty()) || ranges.Meets(b, a) != ranges.Meets(a, b) {
				t.Errorf("Meets(%q, %q) = %t", a.Text(), b.Text(), ranges.Meets(a, b))
			}
			if ranges.Covers(a, b) != (b.Empty() || a.Len() == all.Len()) || ranges.Covers(b, a) != (a.Empty() || b.Len() == all.Len()) {
				t.Errorf("Covers of %q and %q", a.Text(), b.Text())
			}
		}
	}
}

// P7.2: combinations with too many ranges are errors, but relations are told of all sets.
func TestLimitOfCombinations(t *testing.T) {
	const most = ranges.MaxRanges
	full, next := set(t, apart(most, 0)...), set(t, apart(most, 1)...)
	one, wide := set(t, span{From: 2 * most, To: 2*most + 1}), set(t, span{From: 0, To: 2*most + 1})
	far := set(t, apart(most, 5000)...)
	// These have nearly twice as many common ranges as each of them has.
	long, holes := set(t, triples(2)...), set(t, triples(0)...)
	type result struct {
		count int
		e     api.Errno
	}
	for i, x := range []struct {
		combine func(a, b ranges.Set) (ranges.Set, api.Errno)
		a, b    ranges.Set
		want    result
	}{
		{ranges.Union, full, full, result{most, api.OK}}, {ranges.Union, full, next, result{1, api.OK}}, {ranges.Union, full, one, result{0, api.ErrLimit}}, {ranges.Union, one, full, result{0, api.ErrLimit}},
		{ranges.Union, full, far, result{0, api.ErrLimit}}, {ranges.Union, set(t, apart(most-1, 0)...), one, result{most, api.OK}},
		{ranges.Minus, wide, full, result{most, api.OK}}, {ranges.Minus, wide, next, result{0, api.ErrLimit}}, {ranges.Minus, full, next, result{most, api.OK}}, {ranges.Minus, next, wide, result{0, api.OK}},
		{ranges.Minus, wide, set(t, apart(most-1, 1)...), result{most, api.OK}},
		{ranges.Both, full, wide, result{most, api.OK}}, {ranges.Both, full, next, result{0, api.OK}}, {ranges.Both, long, holes, result{0, api.ErrLimit}},
	} {
		s, e := x.combine(x.a, x.b)
		if len(s.Ranges()) != x.want.count || e != x.want.e {
			t.Errorf("%d: %d ranges, %d; want %v", i, len(s.Ranges()), e, x.want)
		}
	}
	if !ranges.Covers(wide, next) || ranges.Covers(next, wide) || ranges.Covers(full, far) || !ranges.Meets(wide, next) || ranges.Meets(full, next) {
		t.Error("relations of sets with many ranges")
	}
	if !ranges.Meets(long, holes) || ranges.Covers(long, holes) || ranges.Covers(holes, long) {
		t.Error("relations of sets whose combinations have too many ranges")
	}
}

// triples returns as many ranges of three positions as permitted, with a missing one between two of them.
func triples(from int) []span {
	l := make([]span, ranges.MaxRanges)
	for i := range l {
		l[i] = span{From: from + 4*i, To: from + 4*i + 3}
	}
	return l
}
