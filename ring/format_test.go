package ring_test

import (
	"slices"
	"strings"
	"testing"

	"replevin/api"
	"replevin/disk"
	"replevin/frame"
	"replevin/ring"
)

// formatted tests that Format succeeds with a generation.
func formatted(t *testing.T, a area, generation int) {
	t.Helper()
	before := a.d.Clone()
	must(t, "Format", ring.Format(a.d, a.start, a.blocks), api.OK)
	if a.d.Operations() != before.Operations()+2 || len(a.d.Pending()) != 0 {
		t.Fatal("Format is not a write and a flush")
	}
	write(t, before, a.start+generation%2, headFrame(t, generation, 0, 0, generation))
	if !a.d.Equal(before) {
		t.Fatalf("Format does not write the head of the generation %d", generation)
	}
	if h := a.find(t); !h.is || h.generation != generation || h.first != 0 || h.place != 0 || h.base != generation || len(h.entries) != 0 {
		t.Fatalf("Format makes the ring %v", h)
	}
}

// P11.1: a new device, and a ring that is formatted again and again.
func TestFormat(t *testing.T) {
	if ring.HeadBlocks != 2 || ring.MinBlocks != 4 || ring.MaxEntry != 131072 || ring.Head != 1 || ring.Body != 2 {
		t.Error("the constants are others")
	}
	for _, a := range []area{{made(t, 4), 0, 4}, {made(t, 9), 0, 4}, {made(t, 9), 5, 4}, {made(t, 9), 2, 6}, {made(t, disk.MaxBlocks), 0, disk.MaxBlocks}} {
		for generation := range 3 {
			formatted(t, a, generation)
		}
		r, m := opened(t, a)
		if r.Generation() != 3 {
			t.Fatalf("Generation = %d", r.Generation())
		}
		appends(t, r, m, "x")
		m.check(t, r)
		formatted(t, a, 4)
	}
}

// P11.1, P11.6: a block within an entry does not look like the beginning of a frame, whatever the text is.
func TestFramesInText(t *testing.T) {
	a := area{made(t, 8), 0, 8}
	r, m := started(t, a)
	text := strings.Repeat("x", 486) + frameOf(t, 2, 99, 1, "a")
	for len(text) < 1500 {
		text += frameOf(t, 2, 99, 1, "a")
		appends(t, r, m, text)
		must(t, "Trim", r.Trim(r.Next()), m.trim(r.Next()))
		m.check(t, r)
	}
	formatted(t, a, r.Generation()+1)
}

// P11.1: which generation the head has.
func TestFormatGeneration(t *testing.T) {
	long, longer := strings.Repeat("x", 1000), strings.Repeat("x", 2000)
	for i, x := range []struct {
		prepare func(a area)
		want    int
	}{
		{func(a area) { a.lead(t, 6, 3, 1, 2); a.lead(t, 3, 0, 0, 0) }, 7},
		{func(a area) { a.lead(t, 4, 3, 1, 2); a.lead(t, 9, 0, 0, 0) }, 10},
		{func(a area) { a.lead(t, 4, 3, 1, 2); write(t, a.d, a.start+1, headFrame(t, 9, 0, 4, 0)) }, 5},
		{func(a area) { write(t, a.d, a.start, headFrame(t, 9, 0, 0, 0)) }, 0},
		{func(a area) { a.lead(t, 3, 0, 0, 0); a.body(t, 0, 7, 0, "a"); a.body(t, 3, 8, 100, "b") }, 9},
		{func(a area) { a.lead(t, 3, 0, 0, 0); a.body(t, 2, 2, 0, "a") }, 4},
		{func(a area) { a.lead(t, 3, 0, 0, 0); a.body(t, 2, 3, frame.MaxNumber, "a") }, 4},
		{func(a area) { a.body(t, 1, 0, 0, "") }, 1},
		{func(a area) { a.body(t, 3, 5, 0, longer) }, 6},
		{func(a area) { a.body(t, 3, 5, 0, long); write(t, a.d, a.block(0), "x") }, 0},
		{func(a area) { a.body(t, 3, 5, 0, longer); a.body(t, 0, 2, 0, "a") }, 3},
		{func(a area) { a.put(t, 1, frameOf(t, 1, 5, 0, "a")); a.put(t, 2, frameOf(t, 3, 6, 0, "a")) }, 0},
		{func(a area) { a.put(t, 1, "\x00"+frameOf(t, 2, 5, 0, "a")); a.body(t, 2, 6, 0, long) }, 7},
		{func(a area) { a.body(t, 0, 9, 0, frameOf(t, 2, 70, 0, "a")+long+frameOf(t, 2, 80, 0, "a")) }, 10},
		{func(a area) { write(t, a.d, a.start-1, frameOf(t, 2, 9, 0, "")); a.body(t, 0, 1, 0, "") }, 2},
		{func(a area) { a.lead(t, frame.MaxStream-1, 0, 0, 0) }, frame.MaxStream},
		{func(a area) { a.body(t, 0, frame.MaxStream-1, 0, "") }, frame.MaxStream},
	} {
		a := area{made(t, 8), 1, 6}
		x.prepare(a)
		t.Logf("case %d", i)
		formatted(t, a, x.want)
	}
	big := area{made(t, 600), 0, 600}
	big.body(t, 597, 4, 0, strings.Repeat("y", frame.MaxPayload))
	formatted(t, big, 5)
}

// P11.1, P11.2: the errors, and which of them comes first.
func TestOpenErrors(t *testing.T) {
	both := func(what string, d *disk.Disk, first, blocks int, want api.Errno) {
		t.Helper()
		before, operations := d.Clone(), d.Operations()
		must(t, "Format "+what, ring.Format(d, first, blocks), want)
		r, l, e := ring.Open(d, first, blocks)
		must(t, "Open "+what, e, want)
		if r != nil || len(l) != 0 || !d.Equal(before) || d.Operations() != operations {
			t.Fatalf("Open %s has an effect", what)
		}
	}
	both("of no device", nil, -1, 0, api.ErrArgument)
	d := made(t, 8)
	bad := [][2]int{{-1, 4}, {-large - 1, 4}, {0, 3}, {0, 0}, {0, -1}, {0, -large - 1}, {0, 9}, {1, 8}, {5, 4}, {8, 4}, {4, large}, {large, 4}, {large, large}, {-1, large}, {-4, 8}, {large, -large - 1}}
	for range 2 {
		for _, x := range bad {
			both("of a range", d, x[0], x[1], api.ErrRange)
		}
		d.Fail()
	}
	both("without power", d, 0, 8, api.ErrCrash)
	both("of an empty device", &disk.Disk{}, 0, 4, api.ErrRange)
	for _, x := range []area{{made(t, 4), 0, 4}, {made(t, 8), 4, 4}, {made(t, 8), 0, 8}} {
		formatted(t, x, 0)
		opened(t, x)
	}
	a := area{made(t, 6), 0, 6}
	a.lead(t, frame.MaxStream, 0, 0, 0)
	both("at the greatest generation", a.d, 0, 6, api.ErrLimit)
	a.lead(t, 6, 0, 0, 0)
	both("at the greatest generation", a.d, 0, 6, api.ErrLimit)
}

// P11.1: a frame with the greatest stream.
func TestFormatLimit(t *testing.T) {
	a := area{made(t, 6), 0, 6}
	a.lead(t, 2, 0, 0, 0)
	a.body(t, 3, frame.MaxStream, 5, "x")
	before := a.d.Clone()
	must(t, "Format", ring.Format(a.d, 0, 6), api.ErrLimit)
	if !a.d.Equal(before) {
		t.Error("Format with an error changes the device")
	}
	a.put(t, 3, frameOf(t, 3, frame.MaxStream, 5, "x"))
	formatted(t, a, 3)
}

// P11.2: which heads are valid.
func TestHeads(t *testing.T) {
	const places = 4
	payload := headPayload
	for i, x := range []struct {
		s  string
		is bool
	}{
		{headFrame(t, 6, 0, 0, 0), true}, {headFrame(t, 6, frame.MaxNumber, places-1, 6), true}, {headFrame(t, 0, 0, 0, 0), true}, {headFrame(t, 6, 300, 2, 5) + "x", true},
		{"", false}, {headFrame(t, 7, 0, 0, 0), false}, {frameOf(t, 2, 6, 0, payload(0, 0, 0)), false}, {frameOf(t, 0, 6, 0, payload(0, 0, 0)), false}, {frameOf(t, 1, 6, 1, payload(0, 0, 0)), false}, {frameOf(t, 1, 6, frame.MaxNumber, payload(0, 0, 0)), false},
		{headFrame(t, 6, frame.MaxNumber+1, 0, 0), false}, {headFrame(t, 6, 0, places, 0), false}, {headFrame(t, 6, 0, 0, 7), false}, {headFrame(t, 0, 0, 0, 1), false}, {headFrame(t, 6, 0, large, 0), false},
		{frameOf(t, 1, 6, 0, ""), false}, {frameOf(t, 1, 6, 0, "\x00\x00"), false}, {frameOf(t, 1, 6, 0, "\x00\x00\x00\x00"), false}, {frameOf(t, 1, 6, 0, "\x80\x00\x00\x00"), false}, {frameOf(t, 1, 6, 0, "\x00\x00\x80"), false}, {frameOf(t, 1, 6, 0, strings.Repeat("\xff", 9)+"\x01\x00\x00"), false},
		{"\x00" + headFrame(t, 6, 0, 0, 0), false}, {strings.Replace(headFrame(t, 6, 0, 0, 0), "\xf5", "\xf4", 1), false}, {frameOf(t, 1, 6, 0, payload(0, 0, 0)+strings.Repeat("\x00", 500)), false},
	} {
		a := area{made(t, 8), 1, 6}
		write(t, a.d, a.start, x.s)
		if h := a.find(t); h.is != x.is {
			t.Fatalf("%d: the test itself finds %v", i, h)
		}
		if x.is {
			opened(t, a)
			continue
		}
		before := a.d.Clone()
		if r, l, e := ring.Open(a.d, a.start, a.blocks); r != nil || len(l) != 0 || e != api.ErrFormat || !a.d.Equal(before) {
			t.Errorf("%d: Open = %d; want ErrFormat", i, e)
		}
		// The other head counts, also if it is an older one.
		a.lead(t, 1, 40, 3, 1)
		if r, _ := opened(t, a); r.Generation() != 2 || r.First() != 40 {
			t.Errorf("%d: Generation = %d, First = %d", i, r.Generation(), r.First())
		}
	}
}

// P11.2: the current head is the one with the greater generation.
func TestCurrentHead(t *testing.T) {
	for _, x := range [][2]int{{4, 3}, {4, 5}, {0, 9}, {8, 1}, {frame.MaxStream - 1, 3}} {
		a := area{made(t, 6), 0, 6}
		a.lead(t, x[0], 10, 1, 0)
		a.lead(t, x[1], 20, 2, 0)
		want := 10
		if x[1] > x[0] {
			want = 20
		}
		if r, _ := opened(t, a); r.First() != want || r.Generation() != max(x[0], x[1])+1 {
			t.Errorf("First = %d, Generation = %d of the generations %v", r.First(), r.Generation(), x)
		}
	}
}

// P11.2: which frames are entries.
func TestSearch(t *testing.T) {
	three := strings.Repeat("3", 1100)
	for i, x := range []struct {
		generation, place, base int
		bodies                  func(a area)
		want                    int
	}{
		{9, 0, 2, func(a area) { a.body(t, a.body(t, a.body(t, 0, 2, 5, "a"), 2, 6, three), 9, 7, "c") }, 3},
		{9, 0, 2, func(a area) { a.body(t, 0, 1, 5, "a") }, 0},
		{9, 0, 2, func(a area) { a.body(t, 0, 10, 5, "a") }, 0},
		{9, 0, 2, func(a area) { a.body(t, 0, 9, 5, "a"); a.body(t, 1, 9, 6, "a"); a.body(t, 2, 8, 7, "a") }, 2},
		{9, 0, 2, func(a area) { a.body(t, 0, 3, 5, "a"); a.body(t, 1, 2, 6, "a") }, 1},
		{9, 0, 2, func(a area) { a.body(t, 0, 3, 5, "a"); a.body(t, 1, 10, 6, "a") }, 1},
		{9, 0, 2, func(a area) { a.body(t, 0, 3, 4, "a") }, 0},
		{9, 0, 2, func(a area) { a.body(t, 0, 3, 6, "a") }, 0},
		{9, 0, 2, func(a area) { a.body(t, 0, 3, 5, "a"); a.body(t, 1, 3, 5, "a") }, 1},
		{9, 0, 2, func(a area) { a.body(t, 0, 3, 5, "a"); a.body(t, 1, 3, 7, "a") }, 1},
		{9, 0, 2, func(a area) { a.body(t, 1, 3, 5, "a") }, 0},
		{9, 4, 2, func(a area) { a.body(t, 4, 3, 5, three); a.body(t, 1, 3, 6, "b") }, 2},
		{9, 0, 2, func(a area) { a.put(t, 0, frameOf(t, 1, 3, 5, "a")) }, 0},
		{9, 0, 2, func(a area) { a.put(t, 0, frameOf(t, 3, 3, 5, "a")) }, 0},
		{9, 2, 2, func(a area) {
			for k := range 6 {
				a.body(t, 2+k, 4, 5+k, "a")
			}
		}, 6},
		{9, 0, 2, func(a area) { a.body(t, a.body(t, 0, 3, 5, three), 3, 6, three) }, 2},
		{9, 0, 2, func(a area) { a.body(t, 0, 3, 5, strings.Repeat("6", 470+5*511)) }, 1},
		{9, 1, 2, func(a area) { a.body(t, 1, 3, 5, strings.Repeat("6", 470+5*511)) }, 1},
		{9, 0, 9, func(a area) { a.body(t, 0, 9, 5, "a") }, 1},
		{9, 0, 9, func(a area) { a.body(t, 0, 8, 5, "a") }, 0},
	} {
		a := area{made(t, 8), 0, 8}
		a.lead(t, x.generation, 5, x.place, x.base)
		x.bodies(a)
		t.Logf("case %d", i)
		if _, m := opened(t, a); len(m.entries) != x.want {
			t.Errorf("%d entries; want %d", len(m.entries), x.want)
		}
	}
}

// P11.2: an entry may not need places that were passed, although its frame is whole.
//
// The last block of the second entry is that of the first one. So the text of the second one ends with what the first one begins with, and its check is in the text of the first one.
func TestPassed(t *testing.T) {
	const length = 100
	for places := 3; places < 8; places++ {
		a := area{made(t, places+2), 0, places + 2}
		a.lead(t, 1, 0, 0, 0)
		header := frameOf(t, 2, 1, 0, strings.Repeat("x", length))[:frame.HeaderSize]
		second := frameOf(t, 2, 1, 1, strings.Repeat("s", 512-frame.HeaderSize+511*(places-2))+header[1:])
		check := second[len(second)-frame.CheckSize:]
		a.put(t, 1, second)
		a.body(t, 0, 1, 0, check+strings.Repeat("x", length-frame.CheckSize))
		if f, _, e := frame.Decode(a.piece(t, 1)); f.Number != 1 || e != api.OK {
			t.Fatalf("the second entry is no frame: %d", e)
		}
		if r, _ := opened(t, a); r.Next() != 1 || r.Free() != places-1 {
			t.Errorf("Next = %d, Free = %d", r.Next(), r.Free())
		}
	}
}

// P11.2: what Open writes, and in which order.
func TestOpenWrites(t *testing.T) {
	for _, full := range []bool{false, true} {
		a := area{made(t, 9), 1, 6}
		a.lead(t, 4, 7, 3, 2)
		a.body(t, a.body(t, 3, 2, 7, "a"), 4, 8, strings.Repeat("b", 900))
		a.body(t, 2, 9, 9, "of another generation")
		want := []disk.Write{{Block: a.block(2), Bytes: make([]byte, 512)}, {Block: 2, Bytes: []byte(cut(headFrame(t, 5, 7, 3, 2))[0])}}
		if full {
			a.body(t, 2, 4, 9, "c")
			want = want[1:]
		}
		before := a.d.Clone()
		a.d.SetLimit(len(want))
		r, l, e := ring.Open(a.d, a.start, a.blocks)
		if r != nil || len(l) != 0 || e != api.ErrCrash {
			t.Fatalf("Open = %d", e)
		}
		if l := a.d.Pending(); !slices.EqualFunc(l, want, func(a, b disk.Write) bool { return a.Block == b.Block && string(a.Bytes) == string(b.Bytes) }) {
			t.Errorf("Open writes to %d blocks; want %d", len(l), len(want))
		}
		a.d = before
		opened(t, a)
		if len(a.d.Pending()) != 0 {
			t.Error("Open does not flush")
		}
	}
}

// P11.2: a body may be longer than what Append accepts.
func TestLongBody(t *testing.T) {
	for _, n := range []int{ring.MaxEntry, ring.MaxEntry + 1, frame.MaxPayload} {
		a := area{made(t, 700), 3, 640}
		a.lead(t, 1, 0, 600, 1)
		a.body(t, a.body(t, 600, 1, 0, strings.Repeat("x", n)), 1, 1, "y")
		r, m := opened(t, a)
		if len(m.entries) != 2 || len(m.entries[0].Text) != n {
			t.Fatalf("%d entries", len(m.entries))
		}
		must(t, "Trim", r.Trim(1), m.trim(1))
		m.check(t, r)
	}
}
