package ranges_test

import (
	"math/rand/v2"
	"slices"
	"strconv"
	"strings"
	"testing"

	"replevin/api"
	"replevin/ranges"
)

type span = ranges.Range

// The model of a set tells of each of few positions, which begin at base, whether it is an element.
type model struct {
	base int
	is   [90]bool
}

// bases are such that the model begins, or ends, where positions do.
func bases() []int { return []int{0, 1000, ranges.MaxPosition - 90} }

func (m model) has(at int) bool { return at >= m.base && at < m.base+len(m.is) && m.is[at-m.base] }

// positions returns the elements in order.
func (m model) positions() []int {
	var l []int
	for i, is := range m.is {
		if is {
			l = append(l, m.base+i)
		}
	}
	return l
}

func (m model) ranges() []span {
	var l []span
	for _, at := range m.positions() {
		if !m.has(at - 1) {
			l = append(l, span{From: at, To: at})
		}
		l[len(l)-1].To++
	}
	return l
}

func (m model) text() string {
	text := ""
	for _, r := range m.ranges() {
		text += " " + strconv.FormatInt(int64(r.From), 10) + "+" + strconv.FormatInt(int64(r.To-r.From), 10)
	}
	return strings.TrimPrefix(text, " ")
}

// both returns the set of the positions that in accepts.
func both(a, b model, in func(a, b bool) bool) model {
	m := model{base: a.base}
	for i := range m.is {
		m.is[i] = in(a.is[i], b.is[i])
	}
	return m
}

// spread returns ranges in any order that together contain the elements, some of them more than once, and that may be empty.
func (m model) spread(random *rand.Rand) []span {
	var l []span
	for _, r := range m.ranges() {
		for at := r.From; at < r.To; {
			end := min(r.To, at+1+random.IntN(7))
			l = append(l, span{From: max(r.From, at-random.IntN(4)), To: end})
			at = end
		}
	}
	for range random.IntN(4) {
		at := m.base + random.IntN(len(m.is)+1)
		l = append(l, span{From: at, To: at})
	}
	random.Shuffle(len(l), func(i, j int) { l[i], l[j] = l[j], l[i] })
	return l
}

func someModel(random *rand.Rand, base int) model {
	m := model{base: base}
	for range random.IntN(9) {
		from, value := random.IntN(len(m.is)), random.IntN(3) > 0
		for i := range min(1+random.IntN(25), len(m.is)-from) {
			m.is[from+i] = value
		}
	}
	switch random.IntN(12) {
	case 0:
		for i := range m.is {
			m.is[i] = random.IntN(2) == 0
		}
	case 1:
		for i := range m.is {
			m.is[i] = true
		}
	}
	return m
}

// set returns the set of ranges.
func set(t *testing.T, l ...span) ranges.Set {
	t.Helper()
	given := slices.Clone(l)
	s, e := ranges.Of(l...)
	if e != api.OK {
		t.Fatalf("Of(%v) = %d", l, e)
	}
	if !slices.Equal(l, given) {
		t.Fatalf("Of changes %v to %v", given, l)
	}
	return s
}

// check tests what a set says of itself.
func check(t *testing.T, s ranges.Set, m model) {
	t.Helper()
	l := m.ranges()
	if got := s.Ranges(); !slices.Equal(got, l) {
		t.Fatalf("Ranges = %v; want %v", got, l)
	}
	count := len(m.positions())
	if s.Len() != count || s.Empty() != (count == 0) || s.Text() != m.text() {
		t.Fatalf("%v: Len = %d, Empty = %t, Text = %q", l, s.Len(), s.Empty(), s.Text())
	}
	for at := m.base - 2; at < m.base+len(m.is)+2; at++ {
		if s.Has(at) != m.has(at) {
			t.Fatalf("%v: Has(%d) = %t", l, at, s.Has(at))
		}
	}
	if parsed, at, e := ranges.Parse(m.text()); !ranges.Equal(parsed, s) || !ranges.Equal(s, parsed) || at != 0 || e != api.OK {
		t.Fatalf("Parse(%q) = %v, %d, %d", m.text(), parsed.Ranges(), at, e)
	}
}

// apart returns ranges of one position with a missing one between two of them.
func apart(count, from int) []span {
	l := make([]span, count)
	for i := range l {
		l[i] = span{From: from + 2*i, To: from + 2*i + 1}
	}
	return l
}
