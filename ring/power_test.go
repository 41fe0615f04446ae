package ring_test

import (
	"math/rand/v2"
	"slices"
	"strconv"
	"strings"
	"testing"

	"replevin/api"
	"replevin/disk"
	"replevin/ring"
)

// P11.3 to P11.5: an operation that the power interrupts leaves the values as they were, and the ring works no longer.
func TestFailed(t *testing.T) {
	for i, x := range []struct {
		operations int
		act        func(r *ring.Ring) api.Errno
	}{
		{3, func(r *ring.Ring) api.Errno { _, e := r.Append(strings.Repeat("x", 1000)); return e }},
		{1, func(r *ring.Ring) api.Errno { return r.Sync() }},
		{2, func(r *ring.Ring) api.Errno { return r.Trim(2) }},
	} {
		for limit := range x.operations {
			a := area{made(t, 10), 1, 8}
			r, m := started(t, a)
			appends(t, r, m, "a")
			must(t, "Sync", r.Sync(), api.OK)
			m.synced = 1
			appends(t, r, m, "b")
			a.d.SetLimit(limit)
			must(t, "the operation", x.act(r), api.ErrCrash)
			for range 2 {
				m.values(t, r)
				must(t, "Failed", r.Failed(), api.ErrCrash)
				must(t, "Sync", r.Sync(), api.ErrCrash)
				for _, before := range []int{-1, 0, 1, 99} {
					must(t, "Trim", r.Trim(before), api.ErrCrash)
				}
				for _, n := range []int{0, 5000, ring.MaxEntry + 1} {
					if number, e := r.Append(strings.Repeat("x", n)); number != 0 || e != api.ErrCrash {
						t.Fatalf("%d: Append = %d, %d", i, number, e)
					}
				}
				a.d.Restart(nil) // the ring has failed also if the power comes back
			}
			if len(a.d.Pending()) != 0 {
				t.Fatal("a ring that has failed writes")
			}
			opened(t, a)
		}
		// With as many operations as it needs, it does not fail.
		a := area{made(t, 10), 1, 8}
		r, m := started(t, a)
		appends(t, r, m, "a")
		appends(t, r, m, "b")
		a.d.SetLimit(x.operations)
		must(t, "the operation", x.act(r), api.OK)
		must(t, "Failed", r.Failed(), api.OK)
	}
}

// P11.5: an error that does not come from the device is no failure.
func TestNotFailed(t *testing.T) {
	a := area{made(t, 6), 0, 6}
	r, m := started(t, a)
	a.d.Fail()
	r.Append(strings.Repeat("x", ring.MaxEntry+1))
	r.Append(strings.Repeat("x", 3000))
	r.Trim(-1)
	r.Trim(1)
	must(t, "Trim", r.Trim(0), api.OK)
	must(t, "Failed", r.Failed(), api.OK)
	m.values(t, r)
	must(t, "Sync", r.Sync(), api.ErrCrash)
	must(t, "Failed", r.Failed(), api.ErrCrash)
	must(t, "Trim", r.Trim(0), api.ErrCrash)
}

// P11.1, P11.2: the error of the device ends Format and Open.
func TestInterruptedOpen(t *testing.T) {
	for limit := range 2 {
		a := area{made(t, 6), 0, 6}
		a.d.SetLimit(limit)
		must(t, "Format", ring.Format(a.d, 0, 6), api.ErrCrash)
	}
	for limit := range 3 {
		a := area{made(t, 6), 0, 6}
		formatted(t, a, 0)
		a.d.SetLimit(limit)
		if r, l, e := ring.Open(a.d, 0, 6); r != nil || len(l) != 0 || e != api.ErrCrash {
			t.Errorf("Open = %d", e)
		}
	}
}

// fates returns choices that tear no write.
func fates(random *rand.Rand, count int) []uint8 {
	l := make([]uint8, count)
	for i := range l {
		l[i] = uint8(random.IntN(2))
	}
	switch random.IntN(6) {
	case 0:
		clear(l)
	case 1:
		for i := range l {
			l[i] = disk.Whole
		}
	}
	return l
}

// machine is a ring on a device whose power fails now and then, with what may be in it.
type machine struct {
	area
	r *ring.Ring
	// The texts of the entries from first on, of which some are durable.
	first   int
	texts   []string
	durable int
	trimmed int  // what First may be as well, as Trim was interrupted
	emptied bool // whether there may be no entries, as Format was interrupted
	lost    map[string]bool
	made    int // the number of texts
}

// text returns a text that was not appended before.
func (m *machine) text(random *rand.Rand) string {
	m.made++
	return strconv.Itoa(m.made) + strings.Repeat("\xf5\x02", random.IntN(256*m.places())*random.IntN(2))
}

// append appends a text; what was not appended must not come back, although some of its blocks may be durable.
func (m *machine) append(t *testing.T, s string) api.Errno {
	t.Helper()
	number, e := m.r.Append(s)
	switch {
	case e == api.OK && number == m.first+len(m.texts):
		m.texts = append(m.texts, s)
		return api.OK
	case e == api.OK:
		t.Fatalf("Append = %d; want %d", number, m.first+len(m.texts))
	}
	m.lost[s] = true
	if e == api.ErrNoSpace {
		return api.OK
	}
	return e
}

// act performs an operation, and reports whether the power has not failed.
func (m *machine) act(t *testing.T, random *rand.Rand) bool {
	t.Helper()
	var e api.Errno
	switch random.IntN(9) {
	case 0, 1:
		if e = m.r.Sync(); e == api.OK {
			m.durable = len(m.texts)
		}
	case 2, 3:
		count := random.IntN(len(m.texts) + 1)
		if e = m.r.Trim(m.first + count); e != api.OK {
			m.trimmed = m.first + count
		} else if count > 0 {
			m.first, m.texts = m.first+count, m.texts[count:]
			m.durable = len(m.texts)
		}
	case 4:
		if random.IntN(10) > 0 {
			break
		}
		if e = ring.Format(m.d, m.start, m.blocks); e == api.OK {
			m.forget(0, nil)
			return m.open(t)
		}
		m.emptied = true
		return false
	default:
		e = m.append(t, m.text(random))
	}
	if e != api.OK && e != api.ErrCrash {
		t.Fatalf("an operation = %d", e)
	}
	return e == api.OK
}

// forget sets what is in the ring; what was in it, and is not any more, must not come back.
func (m *machine) forget(first int, texts []string) {
	for _, s := range m.texts {
		if !slices.Contains(texts, s) {
			m.lost[s] = true
		}
	}
	m.first, m.texts, m.durable = first, texts, len(texts)
}

// open opens the ring, and tests the entries; it reports whether the power has not failed.
func (m *machine) open(t *testing.T) bool {
	t.Helper()
	r, l, e := ring.Open(m.d, m.start, m.blocks)
	if e == api.ErrCrash && m.d.Down() {
		return false
	}
	must(t, "Open", e, api.OK)
	var texts []string
	for i, x := range l {
		if x.Number != r.First()+i || m.lost[x.Text] {
			t.Fatalf("the entry %d with %d bytes is there", x.Number, len(x.Text))
		}
		texts = append(texts, x.Text)
	}
	first := r.First()
	if !m.emptied || first > 0 || len(l) > 0 {
		m.found(t, first, texts)
	}
	if r.Synced() != first+len(l) || r.Next() != r.Synced() {
		t.Fatalf("Synced = %d, Next = %d after Open", r.Synced(), r.Next())
	}
	m.forget(first, texts)
	m.r, m.trimmed, m.emptied = r, -1, false
	return true
}

// found tests the entries of a ring that was not formatted.
func (m *machine) found(t *testing.T, first int, texts []string) {
	t.Helper()
	if first != m.first && first != m.trimmed {
		t.Fatalf("First = %d; want %d or %d", first, m.first, m.trimmed)
	}
	rest := m.texts[first-m.first:]
	if len(texts) > len(rest) || !slices.Equal(texts, rest[:len(texts)]) || first+len(texts) < m.first+m.durable {
		t.Fatalf("%d entries from %d on; want at least %d of %d from %d on", len(texts), first, m.durable, len(m.texts), m.first)
	}
}

// P11.6: the power fails at any operation of any function, again and again.
func TestPower(t *testing.T) {
	random := rand.New(rand.NewPCG(3, 11))
	for range 400 {
		m := &machine{area: guarded(t, random.IntN(3), 4+random.IntN(6), random.IntN(2)), lost: map[string]bool{}, trimmed: -1}
		must(t, "Format", ring.Format(m.d, m.start, m.blocks), api.OK)
		if !m.open(t) {
			t.Fatal("the power has failed")
		}
		for range 12 {
			m.d.SetLimit(random.IntN(14))
			for m.act(t, random) {
			}
			for failed := true; failed; failed = !m.open(t) {
				m.d.Fail()
				must(t, "Restart", m.d.Restart(fates(random, len(m.d.Pending()))), api.OK)
				if random.IntN(2) == 0 {
					m.d.SetLimit(random.IntN(4))
				}
			}
			m.d.SetLimit(-1)
			m.unharmed(t)
		}
	}
}

// P11.6: an entry whose predecessor was lost never comes back, whatever takes the place of the predecessor.
func TestLost(t *testing.T) {
	for _, n := range []int{0, 470, 471} {
		for _, trim := range []bool{false, true} {
			a := area{made(t, 10), 0, 10}
			r, m := started(t, a)
			appends(t, r, m, "durable")
			must(t, "Sync", r.Sync(), api.OK)
			r.Append("lost")
			r.Append("kept")
			r.Append("kept, too")
			a.d.Fail()
			must(t, "Restart", a.d.Restart([]uint8{disk.Lost, disk.Whole, disk.Whole}), api.OK)
			r, m = opened(t, a)
			if r.Next() != 1 {
				t.Fatalf("Next = %d", r.Next())
			}
			if trim {
				must(t, "Trim", r.Trim(1), m.trim(1))
			}
			appends(t, r, m, strings.Repeat("n", n))
			m.check(t, r)
			if trim {
				must(t, "Trim", r.Trim(2), m.trim(2))
				m.check(t, r)
			}
			opened(t, a)
		}
	}
	// The block of the first entry that was lost is durable at last: it is overwritten.
	a := area{made(t, 10), 0, 10}
	r, _ := started(t, a)
	r.Append(strings.Repeat("x", 600))
	a.d.Fail()
	must(t, "Restart", a.d.Restart([]uint8{disk.Whole, disk.Lost}), api.OK)
	if read(t, a.d, 2) == strings.Repeat("\x00", 512) {
		t.Fatal("the block is lost")
	}
	opened(t, a)
	if read(t, a.d, 2) != strings.Repeat("\x00", 512) {
		t.Error("the block is not overwritten")
	}
}
