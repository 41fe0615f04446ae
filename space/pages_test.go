package space_test

import (
	"slices"
	"strings"
	"testing"

	"replevin/api"
	"replevin/space"
)

var wrongPages = []int{-large - 1, -64, -1, 64, 65, 4096, large}

// P18.4
func TestMap(t *testing.T) {
	s, log := logged(1, 3)
	for _, page := range wrongPages {
		if e := s.Map(page, "x"); e != api.ErrRange {
			t.Errorf("Map(%d): %d", page, e)
		}
		if e := s.Map(page, strings.Repeat("x", 65)); e != api.ErrRange {
			t.Errorf("Map(%d) of 65 bytes: %d", page, e)
		}
	}
	for _, page := range []int{0, 1} {
		if e := s.Map(page, strings.Repeat("x", 65)); e != api.ErrLong {
			t.Errorf("Map(%d) of 65 bytes: %d", page, e)
		}
	}
	if len(*log) != 0 || len(s.Changes()) != 0 {
		t.Errorf("asked for %v, changed %v", *log, s.Changes())
	}
	if e := s.Map(1, "x"); e != api.ErrExists || !slices.Equal(*log, []int{1}) || len(s.Changes()) != 0 {
		t.Errorf("Map of a page of the source: %d, asked for %v", e, *log)
	}
	for page, bytes := range map[int]string{0: "", 63: strings.Repeat("y", 64), 40: "abc", 4: "\x00z"} {
		if e := s.Map(page, bytes); e != api.OK {
			t.Errorf("Map(%d): %d", page, e)
		}
		want := bytes + strings.Repeat("\x00", 64-len(bytes))
		if got, e := s.Page(page); got != want || e != api.OK {
			t.Errorf("after Map(%d, %q): %q, %d", page, bytes, got, e)
		}
		if e := s.Map(page, "x"); e != api.ErrExists {
			t.Errorf("Map of the page %d that is there: %d", page, e)
		}
		if got, e := s.Load(64*page, 64); got != want || e != api.OK {
			t.Errorf("the page %d after a Map that has failed: %q, %d", page, got, e)
		}
	}
	if got := s.Pages(); !slices.Equal(got, []int{0, 1, 2, 3, 4, 40, 63}) {
		t.Errorf("Pages = %v", got)
	}
}

// P18.4
func TestUnmap(t *testing.T) {
	s, log := logged(1, 3)
	for _, page := range wrongPages {
		if e := s.Unmap(page); e != api.ErrRange {
			t.Errorf("Unmap(%d): %d", page, e)
		}
	}
	if len(*log) != 0 {
		t.Errorf("asked for %v", *log)
	}
	if e := s.Unmap(0); e != api.ErrNotFound || !slices.Equal(*log, []int{0}) || len(s.Changes()) != 0 {
		t.Errorf("Unmap of a page that is not there: %d, asked for %v", e, *log)
	}
	if e := s.Unmap(2); e != api.OK || !slices.Equal(*log, []int{0, 2}) {
		t.Errorf("Unmap: %d, asked for %v", e, *log)
	}
	if e := s.Unmap(2); e != api.ErrNotFound {
		t.Errorf("Unmap, twice: %d", e)
	}
	if got, e := s.Load(128, 1); got != "" || e != api.ErrFault || s.Has(2) {
		t.Errorf("after Unmap: %q, %d", got, e)
	}
	// What the page had before does not come back, neither from the space nor from the source.
	if e := s.Map(2, "x"); e != api.OK {
		t.Errorf("Map after Unmap: %d", e)
	}
	if got, e := s.Page(2); got != "x"+strings.Repeat("\x00", 63) || e != api.OK || !slices.Equal(*log, []int{0, 2}) {
		t.Errorf("after Unmap and Map: %q, %d, asked for %v", got, e, *log)
	}
}

// P18.5
func TestPages(t *testing.T) {
	s, log := logged(1, 3)
	for _, page := range wrongPages {
		if s.Has(page) {
			t.Errorf("Has(%d)", page)
		}
		if got, e := s.Page(page); got != "" || e != api.ErrRange {
			t.Errorf("Page(%d) = %q, %d", page, got, e)
		}
	}
	if len(*log) != 0 {
		t.Errorf("asked for %v", *log)
	}
	if !s.Has(3) || s.Has(4) || !slices.Equal(*log, []int{3, 4}) {
		t.Errorf("Has: asked for %v", *log)
	}
	if got, e := s.Page(1); got != strings.Repeat("B", 64) || e != api.OK {
		t.Errorf("Page(1) = %q, %d", got, e)
	}
	if got, e := s.Page(0); got != "" || e != api.ErrNotFound || !slices.Equal(*log, []int{3, 4, 1, 0}) {
		t.Errorf("Page(0) = %q, %d; asked for %v", got, e, *log)
	}
	if got := s.Pages(); !slices.Equal(got, []int{1, 2, 3}) {
		t.Errorf("Pages = %v", got)
	}
	want := []int{3, 4, 1, 0, 2}
	for page := 5; page < 64; page++ {
		want = append(want, page)
	}
	if !slices.Equal(*log, want) {
		t.Errorf("Pages has asked for %v", *log)
	}
}

// P18.6
func TestChanges(t *testing.T) {
	s, _ := logged(1, 9)
	s.Load(0, 1)
	s.Load(64*9, 10)
	s.Store(64*9, "")
	s.Store(64*9+60, "xxxxx")
	s.Map(1, "x")
	s.Unmap(11)
	s.SetWord(639, 1)
	if got := s.Changes(); len(got) != 0 {
		t.Errorf("changes of functions that change nothing: %v", got)
	}
	s.Store(64*8+60, "yyyyy")
	s.SetWord(64*2, 1)
	s.Unmap(4)
	s.Map(20, "z")
	s.Map(0, "a")
	s.Unmap(0)
	s.Unmap(3)
	s.Map(3, strings.Repeat("D", 64))
	s.Store(64*7, "H")
	full := func(letter string) string { return strings.Repeat(letter, 64) }
	want := []space.Change{
		{Page: 0, Absent: true}, {Page: 2, Bytes: "\x01\x00\x00\x00" + full("C")[4:]}, {Page: 3, Bytes: full("D")}, {Page: 4, Absent: true}, {Page: 7, Bytes: full("H")}, {Page: 8, Bytes: full("I")[:60] + "yyyy"}, {Page: 9, Bytes: "y" + full("J")[1:]}, {Page: 20, Bytes: "z" + full("\x00")[1:]},
	}
	if got := s.Changes(); !slices.Equal(got, want) {
		t.Errorf("Changes = %v; want %v", got, want)
	}
	if got := s.Asked(); !slices.Equal(got, []int{0, 1, 2, 3, 4, 7, 8, 9, 10, 11, 20}) {
		t.Errorf("Asked = %v", got)
	}
	// The bytes are the present ones.
	s.Store(64*7+1, "!")
	if got := s.Changes()[4]; got.Bytes != "H!"+full("H")[2:] {
		t.Errorf("the change of the page 7: %v", got)
	}
}

// P18.6: Asked names only pages that a source was asked for.
func TestAsked(t *testing.T) {
	s := mapped(t, 3, 5)
	s.Has(1)
	s.Pages()
	if got := s.Asked(); len(got) != 0 {
		t.Errorf("Asked without a source = %v", got)
	}
	s, _ = logged(1, 3)
	if got := s.Asked(); len(got) != 0 {
		t.Errorf("Asked of a new space = %v", got)
	}
	s.Has(9)
	s.Unmap(2)
	s.Has(0)
	if got := s.Asked(); !slices.Equal(got, []int{0, 2, 9}) {
		t.Errorf("Asked = %v", got)
	}
	if got := s.Fork().Asked(); len(got) != 0 || len(s.Asked()) != 64 {
		t.Errorf("Asked after Fork = %v, %v", got, s.Asked())
	}
}

// P18.9: lists are newly allocated.
func TestListsAreNew(t *testing.T) {
	s, _ := logged(1, 3)
	s.Store(64, "x")
	s.Pages()[0] = 50
	s.Asked()[0] = 50
	s.Changes()[0] = space.Change{Page: 50}
	if s.Pages()[0] != 1 || s.Asked()[0] != 0 || s.Changes()[0].Page != 1 {
		t.Error(s.Pages(), s.Asked(), s.Changes())
	}
}
