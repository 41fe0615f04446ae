package ring_test

import (
	"math/rand/v2"
	"slices"
	"strings"
	"testing"

	"replevin/api"
	"replevin/disk"
	"replevin/frame"
	"replevin/ring"
)

// started returns a new ring with a model of it.
func started(t *testing.T, a area) (*ring.Ring, *model) {
	t.Helper()
	must(t, "Format", ring.Format(a.d, a.start, a.blocks), api.OK)
	return opened(t, a)
}

// appends appends a text to a ring and to its model.
func appends(t *testing.T, r *ring.Ring, m *model, s string) {
	t.Helper()
	number, e := m.append(s)
	if n, got := r.Append(s); n != number || got != e {
		t.Fatalf("Append of %d bytes = %d, %d; want %d, %d", len(s), n, got, number, e)
	}
}

// P11.2 to P11.5
func TestExample(t *testing.T) {
	a := area{made(t, 6), 0, 6}
	r, m := started(t, a)
	if r.Generation() != 1 || r.Free() != 4 {
		t.Fatalf("Generation = %d, Free = %d", r.Generation(), r.Free())
	}
	appends(t, r, m, strings.Repeat("a", 100))
	appends(t, r, m, strings.Repeat("b", 500))
	if r.Free() != 1 {
		t.Fatalf("Free = %d", r.Free())
	}
	must(t, "Trim", r.Trim(1), m.trim(1))
	if r.Free() != 2 || r.Generation() != 2 {
		t.Fatalf("Free = %d, Generation = %d", r.Free(), r.Generation())
	}
	appends(t, r, m, strings.Repeat("c", 500))
	if m.entries[1].place != 3 || m.entries[1].need != 2 {
		t.Fatalf("the entry is at %d", m.entries[1].place)
	}
	m.check(t, r)
}

// P11.3
func TestNeed(t *testing.T) {
	for _, x := range []struct {
		n, want int
		e       api.Errno
	}{
		{0, 1, api.OK}, {100, 1, api.OK}, {470, 1, api.OK}, {471, 2, api.OK}, {500, 2, api.OK}, {981, 2, api.OK}, {982, 3, api.OK}, {131072, 257, api.OK},
		{131073, 0, api.ErrRange}, {-1, 0, api.ErrRange}, {-42, 0, api.ErrRange}, {large, 0, api.ErrRange}, {-large - 1, 0, api.ErrRange},
	} {
		if n, e := ring.Need(x.n); n != x.want || e != x.e {
			t.Errorf("Need(%d) = %d, %d; want %d, %d", x.n, n, e, x.want, x.e)
		}
	}
	for n := 0; n <= ring.MaxEntry; n += 97 {
		if need, e := ring.Need(n); need != len(cut(strings.Repeat("x", n+42))) || e != api.OK {
			t.Fatalf("Need(%d) = %d, %d", n, need, e)
		}
	}
}

// P11.3: the bytes that Append writes, in which order, and where.
func TestAppend(t *testing.T) {
	for _, n := range []int{0, 1, 469, 470, 471, 981, 982, 2003} {
		for place := range 6 {
			a := area{made(t, 12), 3, 8}
			a.lead(t, 5, 40, place, 2)
			r, m := opened(t, a)
			text := strings.Repeat("\xf5\x00t", 1000)[:n]
			before := a.d.Operations()
			appends(t, r, m, text)
			var want []disk.Write
			for i, s := range cut(frameOf(t, 2, 6, 40, text)) {
				want = append(want, disk.Write{Block: 5 + (place+i)%6, Bytes: []byte(s)})
			}
			if l := a.d.Pending(); !slices.EqualFunc(l, want, func(a, b disk.Write) bool { return a.Block == b.Block && string(a.Bytes) == string(b.Bytes) }) {
				t.Fatalf("Append of %d bytes at %d writes %d blocks; want %d", n, place, len(l), len(want))
			}
			if a.d.Operations() != before+len(want) || r.Synced() != 40 || r.Next() != 41 {
				t.Fatalf("Operations = %d, Synced = %d, Next = %d", a.d.Operations(), r.Synced(), r.Next())
			}
			m.check(t, r)
			must(t, "Sync", r.Sync(), api.OK)
			m.synced = 41
			if len(a.d.Pending()) != 0 || a.d.Operations() != before+len(want)+1 {
				t.Fatal("Sync is not a flush")
			}
			m.check(t, r)
		}
	}
}

// P11.3: the errors, and which of them comes first.
func TestAppendErrors(t *testing.T) {
	tooLong := strings.Repeat("x", ring.MaxEntry+1)
	a := area{made(t, 300), 0, 300}
	r, m := started(t, a)
	appends(t, r, m, tooLong)
	appends(t, r, m, tooLong[1:])
	appends(t, r, m, tooLong[1:])
	appends(t, r, m, strings.Repeat("x", 470+511*41))
	appends(t, r, m, strings.Repeat("x", 470+511*39))
	if r.Free() != 1 || r.Next() != 2 {
		t.Fatalf("Free = %d, Next = %d", r.Free(), r.Next())
	}
	before := a.d.Clone()
	appends(t, r, m, strings.Repeat("x", 471))
	appends(t, r, m, tooLong)
	if !a.d.Equal(before) || r.Failed() != api.OK {
		t.Fatal("Append with an error has an effect")
	}
	appends(t, r, m, strings.Repeat("x", 470))
	appends(t, r, m, "")
	m.check(t, r)
}

// P11.3, P11.4: after the greatest number there is none.
func TestGreatestNumber(t *testing.T) {
	a := area{made(t, 6), 0, 6}
	a.lead(t, 1, frame.MaxNumber-1, 3, 0)
	r, m := opened(t, a)
	appends(t, r, m, "a")
	must(t, "Trim", r.Trim(frame.MaxNumber), m.trim(frame.MaxNumber))
	appends(t, r, m, "b")
	must(t, "Sync", r.Sync(), api.OK)
	m.synced = frame.MaxNumber + 1
	m.check(t, r)
	before := a.d.Clone()
	for _, x := range []struct {
		n    int
		want api.Errno
	}{{0, api.ErrLimit}, {1400, api.ErrLimit}, {2000, api.ErrNoSpace}, {ring.MaxEntry + 1, api.ErrLong}} {
		if n, e := r.Append(strings.Repeat("x", x.n)); n != 0 || e != x.want {
			t.Errorf("Append of %d bytes = %d, %d; want %d", x.n, n, e, x.want)
		}
	}
	if !a.d.Equal(before) {
		t.Error("Append with an error writes")
	}
	m.check(t, r)
	// By the chapter's words, Trim of the last one is no error, although no valid head can tell of it.
	must(t, "Trim", r.Trim(frame.MaxNumber+1), m.trim(frame.MaxNumber+1))
	m.values(t, r)
}

// P11.4
func TestTrim(t *testing.T) {
	a := guarded(t, 2, 8, 3)
	r, m := started(t, a)
	for _, n := range []int{10, 800, 20, 30} {
		appends(t, r, m, strings.Repeat("x", n))
	}
	// Trim of First changes nothing.
	before := a.d.Clone()
	must(t, "Trim", r.Trim(0), api.OK)
	if !a.d.Equal(before) || r.Synced() != 0 {
		t.Fatal("Trim of First has an effect")
	}
	for _, bad := range []int{-1, 5, large, -large - 1} {
		must(t, "Trim", r.Trim(bad), api.ErrRange)
	}
	if !a.d.Equal(before) {
		t.Fatal("Trim with an error has an effect")
	}
	m.check(t, r)
	must(t, "Trim", r.Trim(2), m.trim(2))
	m.check(t, r)
	if len(a.d.Pending()) != 0 || r.Synced() != 4 || r.First() != 2 || r.Next() != 4 || r.Free() != 4 || a.d.Operations() != before.Operations()+2 {
		t.Fatalf("Synced = %d, First = %d, Next = %d, Free = %d", r.Synced(), r.First(), r.Next(), r.Free())
	}
	must(t, "Trim", r.Trim(1), api.ErrRange)
	appends(t, r, m, "of the next generation")
	if w := m.entries[2]; w.stream != 2 || m.entries[1].stream != 1 {
		t.Fatalf("the stream is %d", w.stream)
	}
	// The Base is the stream of the last entry that is removed, also if all are.
	must(t, "Trim", r.Trim(4), m.trim(4))
	if h := m.find(t); h.base != 1 || h.generation != 3 {
		t.Fatalf("Base = %d", h.base)
	}
	must(t, "Trim", r.Trim(5), m.trim(5))
	if h := m.find(t); h.base != 2 || h.generation != 4 || h.place != 0 || r.Free() != 6 || r.First() != 5 || r.Next() != 5 {
		t.Fatalf("Base = %d, Place = %d", h.base, h.place)
	}
	m.check(t, r)
	must(t, "Trim", r.Trim(5), api.OK)
	must(t, "Trim", r.Trim(6), api.ErrRange)
	r, m = opened(t, a)
	appends(t, r, m, "x")
	m.check(t, r)
	a.unharmed(t)
}

// P11.2, P11.4: there is a greatest generation.
func TestGreatestGeneration(t *testing.T) {
	a := area{made(t, 6), 0, 6}
	a.lead(t, frame.MaxStream-1, 3, 0, 0)
	a.body(t, 0, 7, 3, "a")
	r, m := opened(t, a)
	appends(t, r, m, "b")
	before := a.d.Clone()
	for before, want := range map[int]api.Errno{2: api.ErrRange, 3: api.OK, 4: api.ErrLimit, 5: api.ErrLimit, 6: api.ErrRange} {
		must(t, "Trim", r.Trim(before), want)
	}
	if !a.d.Equal(before) {
		t.Error("Trim has an effect")
	}
	m.check(t, r)
	must(t, "Sync", r.Sync(), api.OK)
	if r.Synced() != 5 {
		t.Errorf("Synced = %d", r.Synced())
	}
	if r, l, e := ring.Open(a.d, 0, 6); r != nil || len(l) != 0 || e != api.ErrLimit {
		t.Errorf("Open = %d", e)
	}
}

// P11.1 to P11.5: every operation does what it does with a model, whose head and entries are found on the device.
func TestRandomOperations(t *testing.T) {
	random := rand.New(rand.NewPCG(2, 11))
	for range 60 {
		a := guarded(t, random.IntN(4), 4+random.IntN(7), random.IntN(3))
		r, m := started(t, a)
		for range 60 {
			switch random.IntN(12) {
			case 0:
				must(t, "Sync", r.Sync(), api.OK)
				m.synced = m.next()
			case 1, 2, 3, 4:
				before := m.first - 1 + random.IntN(len(m.entries)+3)
				must(t, "Trim", r.Trim(before), m.trim(before))
			case 5:
				r, m = opened(t, a)
			case 6:
				if random.IntN(6) == 0 {
					r, m = started(t, a)
				}
			default:
				appends(t, r, m, someText(random, a.places()))
			}
			m.check(t, r)
		}
		a.unharmed(t)
	}
}

// P11.2: the entries are new memory, and the ring does not depend on them.
func TestEntries(t *testing.T) {
	a := area{made(t, 8), 0, 8}
	r, m := started(t, a)
	for _, s := range []string{"a", "b", "c"} {
		appends(t, r, m, s)
	}
	r, l, e := ring.Open(a.d, 0, 8)
	must(t, "Open", e, api.OK)
	l[0], l[1] = ring.Entry{}, ring.Entry{}
	clear(l)
	must(t, "Trim", r.Trim(1), api.OK)
	_, l, e = ring.Open(a.d, 0, 8)
	if !slices.Equal(l, []ring.Entry{{Number: 1, Text: "b"}, {Number: 2, Text: "c"}}) || e != api.OK {
		t.Errorf("Open = %v, %d", l, e)
	}
}

// P11.3 to P11.5
func TestNil(t *testing.T) {
	var r *ring.Ring
	if n, e := r.Append(""); n != 0 || e != api.ErrArgument {
		t.Errorf("Append = %d, %d", n, e)
	}
	if n, e := r.Append(strings.Repeat("x", ring.MaxEntry+1)); n != 0 || e != api.ErrArgument {
		t.Errorf("Append = %d, %d", n, e)
	}
	must(t, "Sync", r.Sync(), api.ErrArgument)
	must(t, "Trim", r.Trim(0), api.ErrArgument)
	must(t, "Trim", r.Trim(-1), api.ErrArgument)
	must(t, "Failed", r.Failed(), api.ErrArgument)
	if r.First() != 0 || r.Next() != 0 || r.Synced() != 0 || r.Free() != 0 || r.Generation() != 0 {
		t.Error("a nil Ring has values")
	}
	// A ring that was not opened has no places.
	r = &ring.Ring{}
	if _, e := r.Append(""); e != api.ErrNoSpace || r.Trim(0) != api.OK || r.Trim(1) != api.ErrRange || r.Sync() == api.OK {
		t.Error("a Ring that was not opened works")
	}
}
