package space_test

import (
	"slices"
	"strings"
	"testing"

	"replevin/api"
	"replevin/space"
)

// logged returns a space whose source has pages from a first one to a last one, each full of the letter A, B and so on, and the pages that were asked for, in order.
func logged(first, last int) (*space.Space, *[]int) {
	log := new([]int)
	return space.New(func(page int) (string, bool) {
		*log = append(*log, page)
		return strings.Repeat(string(rune('A'+page)), 64), page >= first && page <= last
	}), log
}

// mapped returns a space without a source that has some pages with zero bytes.
func mapped(t *testing.T, pages ...int) *space.Space {
	t.Helper()
	s := space.New(nil)
	for _, page := range pages {
		if e := s.Map(page, ""); e != api.OK {
			t.Fatalf("Map(%d): %d", page, e)
		}
	}
	return s
}

// P18.1
func TestLoad(t *testing.T) {
	for _, x := range []struct {
		at, n int
		want  string
		e     api.Errno
		asked []int
	}{
		{64, 3, "BBB", api.OK, []int{1}}, {127, 1, "B", api.OK, []int{1}}, {127, 2, "BC", api.OK, []int{1, 2}}, {126, 68, "BB" + strings.Repeat("C", 64) + "DD", api.OK, []int{1, 2, 3}}, {64, 64, strings.Repeat("B", 64), api.OK, []int{1}},
		// No bytes: no page is needed, and the address does not matter.
		{64, 0, "", api.OK, nil}, {0, 0, "", api.OK, nil}, {4095, 0, "", api.OK, nil}, {4096, 0, "", api.OK, nil}, {-1, 0, "", api.OK, nil}, {large, 0, "", api.OK, nil}, {-large - 1, 0, "", api.OK, nil},
		// The number of bytes comes before the address.
		{64, -1, "", api.ErrRange, nil}, {-1, -1, "", api.ErrRange, nil}, {5000, -large - 1, "", api.ErrRange, nil},
		// Addresses that do not exist: no page is needed, not even of those that exist.
		{-1, 1, "", api.ErrFault, nil}, {-1, 100, "", api.ErrFault, nil}, {4096, 1, "", api.ErrFault, nil}, {4095, 2, "", api.ErrFault, nil}, {64, 4033, "", api.ErrFault, nil}, {64, large, "", api.ErrFault, nil}, {large, 1, "", api.ErrFault, nil}, {large, large, "", api.ErrFault, nil}, {-large - 1, large, "", api.ErrFault, nil}, {-64, 128, "", api.ErrFault, nil},
		// Pages that are not there: needed up to the first one.
		{63, 1, "", api.ErrFault, []int{0}}, {63, 2, "", api.ErrFault, []int{0}}, {255, 2, "", api.ErrFault, []int{3, 4}}, {127, 500, "", api.ErrFault, []int{1, 2, 3, 4}}, {4095, 1, "", api.ErrFault, []int{63}}, {0, 4096, "", api.ErrFault, []int{0}},
	} {
		s, log := logged(1, 3)
		if got, e := s.Load(x.at, x.n); got != x.want || e != x.e {
			t.Errorf("Load(%d, %d) = %q, %d; want %q, %d", x.at, x.n, got, e, x.want, x.e)
		}
		if !slices.Equal(*log, x.asked) || !slices.Equal(s.Asked(), x.asked) {
			t.Errorf("Load(%d, %d) has asked for %v; want %v", x.at, x.n, *log, x.asked)
		}
	}
}

// P18.1: a source may return fewer and more bytes than a page has; what it returns with false does not count.
func TestSource(t *testing.T) {
	s := space.New(func(page int) (string, bool) {
		switch page {
		case 0:
			return "ab", true
		case 1:
			return strings.Repeat("c", 64) + "d", true
		case 2:
			return "", true
		}
		return "efg", false
	})
	want := "ab" + strings.Repeat("\x00", 62) + strings.Repeat("c", 64) + strings.Repeat("\x00", 64)
	if got, e := s.Load(0, 192); got != want || e != api.OK {
		t.Errorf("Load = %q, %d", got, e)
	}
	if got, e := s.Load(192, 1); got != "" || e != api.ErrFault || s.Has(3) {
		t.Errorf("a page that the source does not have: %q, %d", got, e)
	}
	// Without a source there is nothing, and nobody was asked.
	s = space.New(nil)
	if got, e := s.Load(0, 1); got != "" || e != api.ErrFault || len(s.Pages()) != 0 || len(s.Asked()) != 0 {
		t.Errorf("without a source: %q, %d", got, e)
	}
}

// P18.1, P18.9: the source is asked once for each page, also for one that is not there.
func TestAskedOnce(t *testing.T) {
	s, log := logged(1, 3)
	for range 2 {
		s.Load(64, 64)
		s.Load(0, 1)
		s.Store(64, "x")
		s.Word(100)
		s.SetWord(100, 1)
		s.Text(65, 3)
		s.Map(0, "")
		s.Unmap(0)
		s.Has(1)
		s.Page(1)
	}
	if !slices.Equal(*log, []int{1, 0}) || !slices.Equal(s.Asked(), []int{0, 1}) {
		t.Errorf("asked for %v, %v", *log, s.Asked())
	}
	s.Pages()
	s.Fork()
	s.Equal(s)
	if len(*log) != 64 || len(s.Asked()) != 64 {
		t.Errorf("asked for %v, %v", *log, s.Asked())
	}
}

// P18.2
func TestStore(t *testing.T) {
	for _, x := range []struct {
		at      int
		bytes   string
		e       api.Errno
		asked   []int
		changed []int
	}{
		{64, "xyz", api.OK, []int{1}, []int{1}}, {126, "xyz", api.OK, []int{1, 2}, []int{1, 2}}, {64, strings.Repeat("x", 192), api.OK, []int{1, 2, 3}, []int{1, 2, 3}}, {127, strings.Repeat("x", 66), api.OK, []int{1, 2, 3}, []int{1, 2, 3}},
		// A page counts as changed although its bytes are the same.
		{70, "B", api.OK, []int{1}, []int{1}},
		{64, "", api.OK, nil, nil}, {-1, "", api.OK, nil, nil}, {large, "", api.OK, nil, nil}, {0, "", api.OK, nil, nil},
		{-1, "xx", api.ErrFault, nil, nil}, {4095, "xx", api.ErrFault, nil, nil}, {4096, "x", api.ErrFault, nil, nil}, {large, "x", api.ErrFault, nil, nil}, {-large - 1, "x", api.ErrFault, nil, nil}, {64, strings.Repeat("x", 5000), api.ErrFault, nil, nil},
		// Nothing is stored if a later page is not there.
		{63, "xx", api.ErrFault, []int{0}, nil}, {255, "xx", api.ErrFault, []int{3, 4}, nil}, {100, strings.Repeat("x", 200), api.ErrFault, []int{1, 2, 3, 4}, nil},
	} {
		s, log := logged(1, 3)
		if e := s.Store(x.at, x.bytes); e != x.e {
			t.Errorf("Store(%d, %q) = %d; want %d", x.at, x.bytes, e, x.e)
		}
		var changed []int
		for _, c := range s.Changes() {
			changed = append(changed, c.Page)
		}
		if !slices.Equal(*log, x.asked) || !slices.Equal(changed, x.changed) {
			t.Errorf("Store(%d, %q) has asked for %v and changed %v; want %v and %v", x.at, x.bytes, *log, changed, x.asked, x.changed)
		}
		want := strings.Repeat("B", 64) + strings.Repeat("C", 64) + strings.Repeat("D", 64)
		if x.e == api.OK && x.bytes != "" {
			want = want[:x.at-64] + x.bytes + want[x.at-64+len(x.bytes):]
		}
		if got, e := s.Load(64, 192); got != want || e != api.OK {
			t.Errorf("after Store(%d, %q): %q, %d; want %q", x.at, x.bytes, got, e, want)
		}
	}
}

// P18.2, and the chapter's third example
func TestWord(t *testing.T) {
	s := mapped(t, 0, 1, 63)
	if e := s.SetWord(4, 258); e != api.OK {
		t.Errorf("SetWord(4, 258): %d", e)
	}
	if got, e := s.Load(3, 6); got != "\x00\x02\x01\x00\x00\x00" || e != api.OK {
		t.Errorf("after SetWord(4, 258): %q, %d", got, e)
	}
	for _, at := range []int{0, 1, 2, 3, 59, 60, 61, 62, 63, 64, 124, 4032, 4091, 4092} {
		if e := s.SetWord(at, 0xfedcba98); e != api.OK {
			t.Errorf("SetWord(%d): %d", at, e)
		}
		if got, e := s.Load(at, 4); got != "\x98\xba\xdc\xfe" || e != api.OK {
			t.Errorf("after SetWord(%d): %q, %d", at, got, e)
		}
		if w, e := s.Word(at); w != 0xfedcba98 || e != api.OK {
			t.Errorf("Word(%d) = %x, %d", at, w, e)
		}
	}
	before, _ := s.Load(64, 64)
	for _, at := range []int{-large - 1, -4, -1, 125, 127, 128, 4031, 4093, 4095, 4096, 1 << 32, large - 3, large} {
		if e := s.SetWord(at, 1); e != api.ErrFault {
			t.Errorf("SetWord(%d): %d", at, e)
		}
		if w, e := s.Word(at); w != 0 || e != api.ErrFault {
			t.Errorf("Word(%d) = %x, %d", at, w, e)
		}
	}
	if after, e := s.Load(64, 64); after != before || e != api.OK {
		t.Errorf("after SetWord with errors: %q, %d", after, e)
	}
}

// P18.2: the pages that Word and SetWord need and change.
func TestWordNeeds(t *testing.T) {
	for _, x := range []struct {
		at    int
		e     api.Errno
		asked []int
	}{{124, api.OK, []int{1}}, {125, api.OK, []int{1, 2}}, {61, api.ErrFault, []int{0}}, {253, api.ErrFault, []int{3, 4}}, {4093, api.ErrFault, nil}, {-1, api.ErrFault, nil}} {
		s, log := logged(1, 3)
		if _, e := s.Word(x.at); e != x.e || !slices.Equal(*log, x.asked) || len(s.Changes()) != 0 {
			t.Errorf("Word(%d): %d, asked for %v, changed %v", x.at, e, *log, s.Changes())
		}
		s, log = logged(1, 3)
		changes := 0
		if x.e == api.OK {
			changes = len(x.asked)
		}
		if e := s.SetWord(x.at, 7); e != x.e || !slices.Equal(*log, x.asked) || len(s.Changes()) != changes {
			t.Errorf("SetWord(%d): %d, asked for %v, changed %v", x.at, e, *log, s.Changes())
		}
	}
}

// P18.3
func TestText(t *testing.T) {
	page := strings.Repeat("a", 62)
	for _, x := range []struct {
		at, most int
		want     string
		e        api.Errno
		asked    []int
	}{
		// Page 1 has 62 letters, "b" and a byte 0, page 2 has 64 letters, and page 3 has "de"; the pages 5 and 63 have letters up to their ends, and the others are not there.
		{64, 63, page + "b", api.OK, []int{1}}, {64, 64, page + "b", api.OK, []int{1}}, {64, large, page + "b", api.OK, []int{1}}, {64, 62, "", api.ErrLong, []int{1}}, {64, 1, "", api.ErrLong, []int{1}}, {64, 0, "", api.ErrLong, []int{1}},
		{127, 0, "", api.OK, []int{1}}, {127, large, "", api.OK, []int{1}}, {126, 1, "b", api.OK, []int{1}}, {126, 0, "", api.ErrLong, []int{1}},
		{190, 4, "ccde", api.OK, []int{2, 3}}, {190, 3, "", api.ErrLong, []int{2, 3}}, {190, 2, "", api.ErrLong, []int{2, 3}}, {190, 1, "", api.ErrLong, []int{2}}, {191, 0, "", api.ErrLong, []int{2}}, {195, 5, "", api.OK, []int{3}},
		// The first byte that is not there.
		{63, 5, "", api.ErrFault, []int{0}}, {256, 0, "", api.ErrFault, []int{4}}, {320, 10, "", api.ErrLong, []int{5}}, {320, 64, "", api.ErrFault, []int{5, 6}}, {320, 63, "", api.ErrLong, []int{5}}, {320, 62, "", api.ErrLong, []int{5}}, {380, 4, "", api.ErrFault, []int{5, 6}}, {380, 3, "", api.ErrLong, []int{5}},
		{4090, 6, "", api.ErrFault, []int{63}}, {4090, 5, "", api.ErrLong, []int{63}}, {4090, large, "", api.ErrFault, []int{63}}, {4095, 0, "", api.ErrLong, []int{63}}, {4095, 1, "", api.ErrFault, []int{63}},
		{4096, 0, "", api.ErrFault, nil}, {4096, 10, "", api.ErrFault, nil}, {-1, 0, "", api.ErrFault, nil}, {-1, 10, "", api.ErrFault, nil}, {large, large, "", api.ErrFault, nil}, {-large - 1, large, "", api.ErrFault, nil},
		// The number of bytes comes first.
		{64, -1, "", api.ErrRange, nil}, {-1, -1, "", api.ErrRange, nil}, {4096, -large - 1, "", api.ErrRange, nil},
	} {
		var log []int
		s := space.New(func(p int) (string, bool) {
			log = append(log, p)
			switch p {
			case 1:
				return page + "b", true
			case 2:
				return strings.Repeat("c", 64), true
			case 3:
				return "de", true
			case 5, 63:
				return strings.Repeat("f", 64), true
			}
			return "", false
		})
		if got, e := s.Text(x.at, x.most); got != x.want || e != x.e {
			t.Errorf("Text(%d, %d) = %q, %d; want %q, %d", x.at, x.most, got, e, x.want, x.e)
		}
		if !slices.Equal(log, x.asked) {
			t.Errorf("Text(%d, %d) has asked for %v; want %v", x.at, x.most, log, x.asked)
		}
	}
}

// P18.3: a text may consist of nearly the whole memory.
func TestLongText(t *testing.T) {
	s := space.New(func(page int) (string, bool) { return strings.Repeat("x", 64), true })
	if got, e := s.Text(0, large); got != "" || e != api.ErrFault {
		t.Errorf("without a byte 0: %d bytes, %d", len(got), e)
	}
	if _, e := s.Text(0, 4095); e != api.ErrLong {
		t.Errorf("at most 4095 bytes of 4096: %d", e)
	}
	if _, e := s.Text(0, 4096); e != api.ErrFault {
		t.Errorf("at most 4096 bytes of 4096: %d", e)
	}
	s.Store(4095, "\x00")
	if got, e := s.Text(0, 4095); got != strings.Repeat("x", 4095) || e != api.OK {
		t.Errorf("with a byte 0 at the end: %d bytes, %d", len(got), e)
	}
}
