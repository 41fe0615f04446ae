package space_test

import (
	"fmt"
	"math/rand/v2"
	"slices"
	"strings"
	"testing"

	"replevin/api"
	"replevin/space"
)

const large = int(^uint(0) >> 1)

// The model of a space has all bytes of all its pages for itself; only for Shared does it number the copies in which the chapter holds pages.
type model struct {
	source space.Source
	pages  [64]modelPage
	copies *int // how many copies were made, in all spaces
}

type modelPage struct {
	known, there, asked, changed bool
	bytes                        [64]byte
	number                       int  // of the copy
	given                        bool // another space has been given the copy, or this one has received it
}

func (m *model) newCopy() int {
	*m.copies++
	return *m.copies
}

func (m *model) know(page int) *modelPage {
	p := &m.pages[page]
	if !p.known && m.source != nil {
		p.asked = true
		if text, is := m.source(page); is {
			m.add(p, text)
		}
	}
	p.known = true
	return p
}

func (m *model) add(p *modelPage, text string) {
	p.there, p.given, p.number, p.bytes = true, false, m.newCopy(), [64]byte{}
	for i := 0; i < 64 && i < len(text); i++ {
		p.bytes[i] = text[i]
	}
}

// at returns a byte, or nil if it is not accessible.
func (m *model) at(address int) *byte {
	if address < 0 || address > 4095 {
		return nil
	}
	p := m.know(address / 64)
	if !p.there {
		return nil
	}
	return &p.bytes[address%64]
}

func (m *model) load(at, n int) (string, api.Errno) {
	switch {
	case n < 0:
		return "", api.ErrRange
	case n > 0 && (at < 0 || at > 4095 || n > 4096 || at+n > 4096):
		return "", api.ErrFault
	}
	s := ""
	for i := range n {
		b := m.at(at + i)
		if b == nil {
			return "", api.ErrFault
		}
		s += string([]byte{*b})
	}
	return s, api.OK
}

func (m *model) store(at int, bytes string) api.Errno {
	if _, e := m.load(at, len(bytes)); e != api.OK {
		return e
	}
	for i := range len(bytes) {
		p := &m.pages[(at+i)/64]
		if p.given {
			p.given, p.number = false, m.newCopy()
		}
		p.changed = true
		*m.at(at + i) = bytes[i]
	}
	return api.OK
}

func (m *model) text(at, most int) (string, api.Errno) {
	if most < 0 {
		return "", api.ErrRange
	}
	s := ""
	for {
		b := m.at(at)
		switch {
		case b == nil:
			return "", api.ErrFault
		case *b == 0:
			return s, api.OK
		case len(s) == most:
			return "", api.ErrLong
		}
		s += string([]byte{*b})
		at++
	}
}

func (m *model) mapPage(page int, bytes string) api.Errno {
	switch {
	case page < 0 || page > 63:
		return api.ErrRange
	case len(bytes) > 64:
		return api.ErrLong
	case m.know(page).there:
		return api.ErrExists
	}
	m.add(&m.pages[page], bytes)
	m.pages[page].changed = true
	return api.OK
}

func (m *model) unmap(page int) api.Errno {
	_, e := m.page(page)
	if e == api.OK {
		m.pages[page].there, m.pages[page].changed = false, true
	}
	return e
}

func (m *model) page(page int) (string, api.Errno) {
	switch {
	case page < 0 || page > 63:
		return "", api.ErrRange
	case !m.know(page).there:
		return "", api.ErrNotFound
	}
	return string(m.pages[page].bytes[:]), api.OK
}

func (m *model) all() []int {
	var l []int
	for page := range 64 {
		if m.know(page).there {
			l = append(l, page)
		}
	}
	return l
}

func (m *model) asked() []int {
	var l []int
	for page := range 64 {
		if m.pages[page].asked {
			l = append(l, page)
		}
	}
	return l
}

func (m *model) changes() []space.Change {
	var l []space.Change
	for page, p := range m.pages {
		switch {
		case p.changed && p.there:
			l = append(l, space.Change{Page: page, Bytes: string(p.bytes[:])})
		case p.changed:
			l = append(l, space.Change{Page: page, Absent: true})
		}
	}
	return l
}

func (m *model) fork() *model {
	o := &model{copies: m.copies}
	for _, page := range m.all() {
		m.pages[page].given = true
		o.pages[page] = m.pages[page]
		o.pages[page].changed, o.pages[page].asked = true, false
	}
	return o
}

func modelShared(a, b *model) int {
	n := 0
	for page := range 64 {
		p, q := a.pages[page], b.pages[page]
		if p.there && q.there && p.number == q.number {
			n++
		}
	}
	return n
}

func (m *model) equal(o *model) bool {
	mine, others := m.all(), o.all()
	if !slices.Equal(mine, others) {
		return false
	}
	for _, page := range mine {
		if m.pages[page].bytes != o.pages[page].bytes {
			return false
		}
	}
	return true
}

// pair is a space and its model, with the pages that the source of each was asked for, in order.
type pair struct {
	s          *space.Space
	m          *model
	log, model *[]int
}

// newPair returns a pair whose source has some of the pages, with different numbers of bytes, or without a source.
func newPair(random *rand.Rand, copies *int) pair {
	var texts [64]string
	var is [64]bool
	density := random.IntN(5)
	for page := range texts {
		texts[page] = someBytes(random, random.IntN(100))
		is[page] = random.IntN(4) < density
	}
	p := pair{log: new([]int), model: new([]int)}
	if density == 0 && random.IntN(2) == 0 {
		p.s, p.m = space.New(nil), &model{copies: copies}
		return p
	}
	source := func(log *[]int) space.Source {
		return func(page int) (string, bool) {
			*log = append(*log, page)
			return texts[page], is[page]
		}
	}
	p.s, p.m = space.New(source(p.log)), &model{source: source(p.model), copies: copies}
	return p
}

// someBytes returns bytes of which some are 0.
func someBytes(random *rand.Rand, n int) string {
	b := make([]byte, n)
	for i := range b {
		if random.IntN(20) > 0 {
			b[i] = byte(random.IntN(256))
		}
	}
	return string(b)
}

var extremes = []int{-large - 1, -large, -65, -64, -1, 0, 63, 64, 4032, 4095, 4096, 4097, 1 << 32, large - 1, large}

func someNumber(random *rand.Rand, low, high int) int {
	if random.IntN(10) == 0 {
		return extremes[random.IntN(len(extremes))]
	}
	return low + random.IntN(high-low+1)
}

func somePage(random *rand.Rand) int {
	if random.IntN(15) == 0 {
		return extremes[random.IntN(len(extremes))]
	}
	return random.IntN(64)
}

// operate does the same with a space and its model, and returns what both have returned.
func operate(random *rand.Rand, p pair) (what string, got, want []any) {
	at := someNumber(random, -10, 4110)
	if random.IntN(2) == 0 {
		at = 64*random.IntN(64) + 60 + random.IntN(8)
	}
	n := someNumber(random, -2, 150)
	page := somePage(random)
	switch random.IntN(10) {
	case 0:
		what = fmt.Sprintf("Load(%d, %d)", at, n)
		a, e := p.s.Load(at, n)
		b, f := p.m.load(at, n)
		return what, []any{a, e}, []any{b, f}
	case 1:
		bytes := someBytes(random, random.IntN(150))
		return fmt.Sprintf("Store(%d, %q)", at, bytes), []any{p.s.Store(at, bytes)}, []any{p.m.store(at, bytes)}
	case 2:
		what = fmt.Sprintf("Word(%d)", at)
		a, e := p.s.Word(at)
		s, f := p.m.load(at, 4)
		b := uint32(0)
		for i := range len(s) {
			b += uint32(s[i]) << (8 * i)
		}
		return what, []any{a, e}, []any{b, f}
	case 3:
		w := random.Uint32()
		s := string([]byte{byte(w % 256), byte(w / 256 % 256), byte(w / 65536 % 256), byte(w / 16777216)})
		return fmt.Sprintf("SetWord(%d, %d)", at, w), []any{p.s.SetWord(at, w)}, []any{p.m.store(at, s)}
	case 4:
		a, e := p.s.Text(at, n)
		b, f := p.m.text(at, n)
		return fmt.Sprintf("Text(%d, %d)", at, n), []any{a, e}, []any{b, f}
	case 5:
		bytes := someBytes(random, random.IntN(67))
		return fmt.Sprintf("Map(%d, %q)", page, bytes), []any{p.s.Map(page, bytes)}, []any{p.m.mapPage(page, bytes)}
	case 6:
		return fmt.Sprintf("Unmap(%d)", page), []any{p.s.Unmap(page)}, []any{p.m.unmap(page)}
	case 7:
		_, e := p.m.page(page)
		return fmt.Sprintf("Has(%d)", page), []any{p.s.Has(page)}, []any{e == api.OK}
	case 8:
		a, e := p.s.Page(page)
		b, f := p.m.page(page)
		return fmt.Sprintf("Page(%d)", page), []any{a, e}, []any{b, f}
	}
	if random.IntN(10) > 0 {
		return "nothing", nil, nil
	}
	return "Pages", []any{fmt.Sprint(p.s.Pages())}, []any{fmt.Sprint(p.m.all())}
}

// compare tests that spaces and models have the same lists and the same shared pages; no page is needed for that.
func compare(t *testing.T, what string, pairs []pair) {
	t.Helper()
	for i, p := range pairs {
		if got, want := p.s.Asked(), p.m.asked(); !slices.Equal(got, want) {
			t.Fatalf("after %s: Asked of the space %d = %v; want %v", what, i, got, want)
		}
		if got, want := p.s.Changes(), p.m.changes(); !slices.Equal(got, want) {
			t.Fatalf("after %s: Changes of the space %d = %v; want %v", what, i, got, want)
		}
		if !slices.Equal(*p.log, *p.model) {
			t.Fatalf("after %s: the source of the space %d was asked for %v; want %v", what, i, *p.log, *p.model)
		}
		for j, q := range pairs {
			if got, want := space.Shared(p.s, q.s), modelShared(p.m, q.m); got != want {
				t.Fatalf("after %s: Shared of the spaces %d and %d = %d; want %d", what, i, j, got, want)
			}
		}
	}
}

// P18.1 to P18.9: families of spaces, with and without sources, of which each behaves like its model.
func TestModel(t *testing.T) {
	random := rand.New(rand.NewPCG(18, 1))
	seen := map[string]int{}
	for range 150 {
		copies := new(int)
		pairs := []pair{newPair(random, copies), newPair(random, copies)}
		for range 150 {
			p := pairs[random.IntN(len(pairs))]
			var what string
			switch random.IntN(25) {
			case 0:
				if len(pairs) < 6 {
					what = "Fork"
					pairs = append(pairs, pair{p.s.Fork(), p.m.fork(), new([]int), new([]int)})
				}
			case 1:
				o := pairs[random.IntN(len(pairs))]
				what = "Equal"
				if got, want := p.s.Equal(o.s), p.m.equal(o.m); got != want {
					t.Fatalf("Equal = %v; want %v", got, want)
				} else if want {
					what = "Equal, true"
				}
			default:
				var got, want []any
				what, got, want = operate(random, p)
				if !slices.Equal(got, want) {
					t.Fatalf("%s = %v; want %v", what, got, want)
				}
				if len(want) > 0 {
					what += fmt.Sprint("; ", want[len(want)-1])
				}
			}
			compare(t, what, pairs)
			name, _, _ := strings.Cut(what, "(")
			seen[name]++
			seen[name+what[strings.LastIndex(what, ";")+1:]]++
		}
	}
	for _, name := range []string{"Load 0", "Load 2", "Load 23", "Store 0", "Store 23", "Word 0", "Word 23", "SetWord 0", "SetWord 23", "Text 0", "Text 2", "Text 5", "Text 23", "Map 0", "Map 2", "Map 5", "Map 13", "Unmap 0", "Unmap 2", "Unmap 8", "Has true", "Has false", "Page 0", "Page 2", "Page 8", "Fork", "Equal", "Equal, true"} {
		if seen[name] < 20 {
			t.Errorf("%s occurs %d times", name, seen[name])
		}
	}
}
