package store_test

import (
	"encoding/binary"
	"maps"
	"math/rand/v2"
	"slices"
	"strings"
	"testing"

	"replevin/api"
	"replevin/disk"
	"replevin/frame"
	"replevin/store"
)

const large = int(^uint(0) >> 1)

// The model of a store is a map.
type model map[string]string

func (m model) keys(from, to string, most int) (l []string) {
	for _, key := range slices.Sorted(maps.Keys(m)) {
		if len(l) < most && key >= from && (to == "" || key < to) {
			l = append(l, key)
		}
	}
	return l
}

// must fails if an operation has not the result that it should have.
func must(t *testing.T, what string, e, want api.Errno) {
	t.Helper()
	if e != want {
		t.Fatalf("%s = %d; want %d", what, e, want)
	}
}

func device(t *testing.T, blocks int) *disk.Disk {
	t.Helper()
	d, e := disk.New(blocks)
	must(t, "disk.New", e, api.OK)
	return d
}

func formatted(t *testing.T, d *disk.Disk, first, count int) *store.Store {
	t.Helper()
	s, e := store.Format(d, first, count)
	must(t, "Format", e, api.OK)
	return s
}

func opened(t *testing.T, d *disk.Disk, first, count int) *store.Store {
	t.Helper()
	s, e := store.Open(d, first, count)
	must(t, "Open", e, api.OK)
	return s
}

// check fails if a store has not the entries that it should have.
func check(t *testing.T, s *store.Store, want model) {
	t.Helper()
	if l, e := s.Keys("", "", large); e != api.OK || !slices.Equal(l, want.keys("", "", large)) {
		t.Fatalf("Keys = %q, %d; want %q", l, e, want.keys("", "", large))
	}
	for key := range want {
		gets(t, s, want, key)
	}
	must(t, "Broken", s.Broken(), api.OK)
}

// gets fails if the value of a key is not what it should be.
func gets(t *testing.T, s *store.Store, want model, key string) {
	t.Helper()
	value, is := want[key]
	if v, found, e := s.Get(key); v != value || found != is || e != api.OK {
		t.Fatalf("Get(%q) = %d bytes, %t, %d; want %d, %t", key, len(v), found, e, len(value), is)
	}
}

// refuses fails if a store does anything in spite of the error that has broken its transaction.
func refuses(t *testing.T, s *store.Store, want api.Errno) {
	t.Helper()
	must(t, "Broken", s.Broken(), want)
	for _, key := range []string{"", "a", "none", strings.Repeat("k", 101)} {
		value, is, e := s.Get(key)
		must(t, "Get", e, want)
		must(t, "Put", s.Put(key, ""), want)
		gone, e := s.Delete(key)
		must(t, "Delete", e, want)
		if value != "" || is || gone {
			t.Fatal("results together with an error")
		}
	}
	for _, most := range []int{5, 0, -1} {
		l, e := s.Keys("", "", most)
		must(t, "Keys", e, want)
		if len(l) > 0 {
			t.Fatal("results together with an error")
		}
	}
	must(t, "Commit", s.Commit(), want)
}

// text returns some bytes, which differ from one another.
func text(size int) string {
	b := make([]byte, size)
	for i := range b {
		b[i] = byte(i*i>>7 + i)
	}
	return string(b)
}

// rootBytes returns the block with a frame.
func rootBytes(t *testing.T, kind, stream, number int, payload string) string {
	t.Helper()
	s, e := frame.Encode(frame.Frame{Kind: kind, Stream: stream, Number: number, Payload: payload})
	must(t, "Encode", e, api.OK)
	return s + strings.Repeat("\x00", disk.BlockSize-len(s))
}

// signed returns the encoding of a signed number.
func signed(n int) string { return string(binary.AppendVarint(nil, int64(n))) }

// write makes the bytes of a block durable.
func write(t *testing.T, d *disk.Disk, block int, s string) {
	t.Helper()
	must(t, "Write", d.Write(block, []byte(s)), api.OK)
	must(t, "Flush", d.Flush(), api.OK)
}

func read(t *testing.T, d *disk.Disk, block int) string {
	t.Helper()
	b, e := d.Read(block)
	must(t, "Read", e, api.OK)
	return string(b)
}

// key returns a key that may be there already, and value some value of any length.
func key(random *rand.Rand) string {
	b := make([]byte, 1+random.IntN(3))
	for i := range b {
		b[i] = "\x01\x02abz\xff"[random.IntN(6)]
	}
	if random.IntN(10) == 0 {
		return string(b) + strings.Repeat("k", 97)
	}
	return string(b)
}

func value(random *rand.Rand) string {
	s := text(random.IntN([]int{1, 30, 400, 1500}[random.IntN(4)] + 1))
	return s[random.IntN(len(s)+1):]
}

// act does the same with a store and with its model, and returns whether something was put or deleted, and the error.
func act(t *testing.T, random *rand.Rand, s *store.Store, want model) (bool, api.Errno) {
	t.Helper()
	k := key(random)
	if l := want.keys("", "", large); len(l) > 0 && random.IntN(3) == 0 {
		k = l[random.IntN(len(l))]
	}
	if random.IntN(5) > 1 {
		v := value(random)
		e := s.Put(k, v)
		if e == api.OK {
			want[k] = v
		}
		return e == api.OK, e
	}
	_, was := want[k]
	is, e := s.Delete(k)
	if is != (was && e == api.OK) {
		t.Fatalf("Delete = %t, %d; want %t", is, e, was)
	}
	if is {
		delete(want, k)
	}
	return is, e
}

// acts is act where there can be no error.
func acts(t *testing.T, random *rand.Rand, s *store.Store, want model) {
	t.Helper()
	_, e := act(t, random, s, want)
	must(t, "a change", e, api.OK)
}
