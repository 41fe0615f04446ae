package space_test

import (
	"math/rand/v2"
	"slices"
	"strings"
	"sync"
	"testing"

	"replevin/api"
	"replevin/space"
)

// P18.7
func TestFork(t *testing.T) {
	s, log := logged(1, 3)
	s.Load(128, 1)
	s.Store(64, "x")
	s.Unmap(3)
	s.Map(9, "m")
	before := s.Changes()
	f := s.Fork()
	want := []int{2, 1, 3, 9, 0}
	for page := 4; page < 64; page++ {
		if page != 9 {
			want = append(want, page)
		}
	}
	if !slices.Equal(*log, want) {
		t.Errorf("Fork has asked for %v", *log)
	}
	if !slices.Equal(s.Changes(), before) {
		t.Errorf("Fork has changed %v", s.Changes())
	}
	x := "x" + strings.Repeat("B", 63)
	m := "m" + strings.Repeat("\x00", 63)
	changes := []space.Change{{Page: 1, Bytes: x}, {Page: 2, Bytes: strings.Repeat("C", 64)}, {Page: 9, Bytes: m}}
	if !slices.Equal(f.Changes(), changes) {
		t.Errorf("changes of the new space: %v", f.Changes())
	}
	if got := f.Pages(); !slices.Equal(got, []int{1, 2, 9}) || !slices.Equal(s.Pages(), got) || len(f.Asked()) != 0 {
		t.Errorf("pages of the new space: %v, asked for %v", got, f.Asked())
	}
	// The new space has no source: a page that was not there is asked of nobody.
	if e := f.Map(3, "y"); e != api.OK || f.Has(0) || len(*log) != 64 {
		t.Errorf("Map in the new space: %d, %d asked", e, len(*log))
	}
}

// P18.7, P18.9, P16: each space changes its own bytes only, whichever of both stores first.
func TestForksAreCopies(t *testing.T) {
	s, _ := logged(1, 3)
	f := s.Fork()
	g := f.Fork()
	f.Store(64, "f")
	s.SetWord(64, 1)
	g.Unmap(1)
	g.Map(1, "g")
	s.Unmap(2)
	g.Store(128, "g")
	f.Map(0, "f0")
	for i, x := range []struct {
		s    *space.Space
		at   int
		want string
		e    api.Errno
	}{
		{s, 64, "\x01\x00\x00\x00B", api.OK}, {f, 64, "fBBBB", api.OK}, {g, 64, "g\x00\x00\x00\x00", api.OK},
		{s, 128, "", api.ErrFault}, {f, 128, "CCCCC", api.OK}, {g, 128, "gCCCC", api.OK},
		{s, 192, "DDDDD", api.OK}, {f, 192, "DDDDD", api.OK}, {g, 192, "DDDDD", api.OK},
		{s, 0, "", api.ErrFault}, {f, 0, "f0\x00\x00\x00", api.OK}, {g, 0, "", api.ErrFault},
	} {
		if got, e := x.s.Load(x.at, 5); got != x.want || e != x.e {
			t.Errorf("%d: Load(%d, 5) = %q, %d; want %q, %d", i, x.at, got, e, x.want, x.e)
		}
	}
	if a, b, c := space.Shared(s, f), space.Shared(f, g), space.Shared(s, g); a != 1 || b != 1 || c != 1 {
		t.Errorf("Shared = %d, %d, %d", a, b, c)
	}
}

// P18.7, and the chapter's second example
func TestShared(t *testing.T) {
	s := mapped(t, 0, 1)
	s.Store(0, "a")
	f := s.Fork()
	if n := space.Shared(s, f); n != 2 {
		t.Errorf("Shared after Fork = %d", n)
	}
	f.Store(0, "a")
	if n := space.Shared(f, s); n != 1 || !s.Equal(f) {
		t.Errorf("Shared after Store of the same byte = %d", n)
	}
	f.Store(70, "")
	f.Load(64, 64)
	s.Map(1, "x")
	if n := space.Shared(s, f); n != 1 {
		t.Errorf("Shared after nothing has changed = %d", n)
	}
	// A page that is removed and added again has another copy.
	bytes, _ := s.Page(1)
	s.Unmap(1)
	if n := space.Shared(s, f); n != 0 {
		t.Errorf("Shared after Unmap = %d", n)
	}
	s.Map(1, bytes)
	if n := space.Shared(s, f); n != 0 || !s.Equal(f) {
		t.Errorf("Shared after Unmap and Map = %d", n)
	}
}

// P18.7: a copy that is the space's own again is changed in place, so a second fork shares it, and the first one does not.
func TestSharedByThree(t *testing.T) {
	s := mapped(t, 4, 5, 6)
	f := s.Fork()
	s.Store(64*4, "x")
	g := s.Fork()
	h := f.Fork()
	for i, x := range []struct {
		a, b *space.Space
		want int
	}{{s, f, 2}, {s, g, 3}, {f, g, 2}, {f, h, 3}, {g, h, 2}, {s, h, 2}} {
		if n := space.Shared(x.a, x.b); n != x.want {
			t.Errorf("%d: Shared = %d; want %d", i, n, x.want)
		}
	}
	// The last one that holds a copy replaces it, too, if it was given away before.
	f.Store(64*5, "f")
	h.Store(64*5, "h")
	s.Store(64*5, "s")
	g.Store(64*5, "g")
	for i, x := range []*space.Space{f, h, s, g} {
		if got, _ := x.Load(64*5, 1); got != string("fhsg"[i]) {
			t.Errorf("%d: %q", i, got)
		}
	}
}

// P18.7: pages that were not needed do not count, and spaces with the same source share nothing.
func TestSharedOfKnownPages(t *testing.T) {
	s, log := logged(1, 3)
	o, _ := logged(1, 3)
	if n := space.Shared(s, s); n != 0 || len(*log) != 0 {
		t.Errorf("Shared of a new space with itself = %d, asked for %v", n, *log)
	}
	s.Has(2)
	s.Has(9)
	if n := space.Shared(s, s); n != 1 {
		t.Errorf("Shared with itself = %d", n)
	}
	o.Pages()
	s.Pages()
	if n := space.Shared(s, o); n != 0 || !s.Equal(o) {
		t.Errorf("Shared of spaces with equal sources = %d", n)
	}
	if n := space.Shared(s, s); n != 3 {
		t.Errorf("Shared with itself = %d", n)
	}
	f := s.Fork()
	if n := space.Shared(f, f); n != 3 {
		t.Errorf("Shared of the new space with itself = %d", n)
	}
	if a, b, c := space.Shared(nil, s), space.Shared(s, nil), space.Shared(nil, nil); a+b+c != 0 {
		t.Errorf("Shared with nil = %d, %d, %d", a, b, c)
	}
}

// P18.8
func TestEqual(t *testing.T) {
	var none *space.Space
	s, log := logged(1, 3)
	if s.Equal(none) || none.Equal(s) || !none.Equal(nil) || len(*log) != 0 {
		t.Errorf("Equal with nil; asked for %v", *log)
	}
	if space.New(nil).Equal(nil) || none.Equal(space.New(nil)) || !space.New(nil).Equal(space.New(nil)) {
		t.Error("Equal of spaces without pages")
	}
	full := func(letters string) *space.Space {
		m := space.New(nil)
		for i := range len(letters) {
			m.Map(i+1, strings.Repeat(letters[i:i+1], 64))
		}
		return m
	}
	for _, x := range []struct {
		letters string
		want    bool
	}{{"BCD", true}, {"BC", false}, {"BCDE", false}, {"BCd", false}, {"bCD", false}, {"", false}} {
		o := full(x.letters)
		if s.Equal(o) != x.want || o.Equal(s) != x.want {
			t.Errorf("Equal with %q; want %v", x.letters, x.want)
		}
	}
	if !s.Equal(s) {
		t.Error("Equal with itself")
	}
	o := full("BCD")
	o.Store(4*64-1, "\x00")
	if s.Equal(o) {
		t.Error("Equal although the last byte of the last page differs")
	}
	// A page with zero bytes is not the same as none.
	o = full("BCD")
	o.Map(50, "")
	if s.Equal(o) || o.Equal(s) {
		t.Error("Equal although one has a page with zero bytes")
	}
}

// P18.8: all pages of both are needed, those of the first space first, although the first ones differ.
func TestEqualNeeds(t *testing.T) {
	var log []int
	source := func(offset int) space.Source {
		return func(page int) (string, bool) {
			log = append(log, page+offset)
			return strings.Repeat("x", offset), page == 0
		}
	}
	a, b := space.New(source(0)), space.New(source(64))
	b.Has(5)
	if a.Equal(b) {
		t.Error("Equal")
	}
	want := []int{64 + 5}
	for page := range 128 {
		if page != 64+5 {
			want = append(want, page)
		}
	}
	if !slices.Equal(log, want) {
		t.Errorf("asked for %v", log)
	}
}

// P1, P18.1 to P18.8: a nil space
func TestNil(t *testing.T) {
	var s *space.Space
	if got, e := s.Load(-1, -1); got != "" || e != api.ErrArgument {
		t.Errorf("Load: %q, %d", got, e)
	}
	if got, e := s.Load(0, 0); got != "" || e != api.ErrArgument {
		t.Errorf("Load of no bytes: %q, %d", got, e)
	}
	if w, e := s.Word(-1); w != 0 || e != api.ErrArgument {
		t.Errorf("Word: %d, %d", w, e)
	}
	if got, e := s.Text(0, -1); got != "" || e != api.ErrArgument {
		t.Errorf("Text: %q, %d", got, e)
	}
	if got, e := s.Page(-1); got != "" || e != api.ErrArgument {
		t.Errorf("Page: %q, %d", got, e)
	}
	for i, e := range []api.Errno{s.Store(-1, "x"), s.Store(0, ""), s.SetWord(-1, 1), s.Map(-1, ""), s.Map(0, strings.Repeat("x", 65)), s.Unmap(-1), s.Unmap(0)} {
		if e != api.ErrArgument {
			t.Errorf("%d: %d", i, e)
		}
	}
	if s.Has(0) || s.Pages() != nil || s.Asked() != nil || s.Changes() != nil || s.Fork() != nil {
		t.Error("Has, Pages, Asked, Changes or Fork of nil")
	}
}

// P1: the zero Space is one without a source.
func TestZero(t *testing.T) {
	for i, use := range []func(s *space.Space) bool{
		func(s *space.Space) bool { _, e := s.Load(0, 1); return e == api.ErrFault },
		func(s *space.Space) bool { return s.Store(0, "x") == api.ErrFault },
		func(s *space.Space) bool { _, e := s.Text(0, 1); return e == api.ErrFault },
		func(s *space.Space) bool { return s.Map(3, "x") == api.OK && s.Has(3) && len(s.Changes()) == 1 },
		func(s *space.Space) bool { return s.Unmap(3) == api.ErrNotFound },
		func(s *space.Space) bool { return len(s.Pages()) == 0 },
		func(s *space.Space) bool { return len(s.Asked())+len(s.Changes())+space.Shared(s, s) == 0 },
		func(s *space.Space) bool { return s.Fork().Equal(s) },
		func(s *space.Space) bool { return s.Equal(space.New(nil)) && space.New(nil).Equal(s) },
	} {
		if !use(new(space.Space)) {
			t.Errorf("%d", i)
		}
	}
}

// P18.9, P16: spaces that share pages can be used at the same time, each by one goroutine, since each behaves as if it had full copies.
func TestForksAtTheSameTime(t *testing.T) {
	root := space.New(func(page int) (string, bool) { return strings.Repeat("r", page), true })
	forks := []*space.Space{root.Fork(), root.Fork(), root.Fork(), root.Fork()}
	work := func(s *space.Space, seed int) []space.Change {
		random := rand.New(rand.NewPCG(18, uint64(seed)))
		for range 300 {
			s.Store(random.IntN(4000), someBytes(random, random.IntN(90)))
			if random.IntN(30) == 0 {
				s = s.Fork()
			}
		}
		return s.Changes()
	}
	results := make([][]space.Change, len(forks))
	var group sync.WaitGroup
	for i, f := range forks {
		group.Go(func() { results[i] = work(f, i) })
	}
	group.Wait()
	for i, got := range results {
		if want := work(root.Fork(), i); !slices.Equal(got, want) {
			t.Errorf("the fork %d has other changes than one that is used alone", i)
		}
	}
	if len(root.Changes()) != 0 {
		t.Error("the first space has changed")
	}
}
