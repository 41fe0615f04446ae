package blocks_test

import (
	"encoding/binary"
	"math/rand/v2"
	"strings"
	"testing"

	"replevin/api"
	"replevin/blocks"
)

// decoded returns the model of a map with an encoding, or nil if there is none.
func decoded(s string) *model {
	rest := []byte(s)
	var numbers [3]uint64
	for i := range numbers {
		n, size := binary.Uvarint(rest)
		if size <= 0 {
			return nil
		}
		numbers[i], rest = n, rest[size:]
	}
	first, count := numbers[0], numbers[1]
	if first > 1<<30 || count < 1 || count > 65536 || numbers[2] != uint64(len(rest)) || uint64(len(rest)) < (count+7)/8 {
		return nil
	}
	m := newModel(int(first), int(count))
	for i := range m.now {
		m.now[i] = rest[i/8]>>(i%8)&1 == 1
	}
	m.commit()
	if m.encode() != s {
		return nil
	}
	return m
}

// decodes tests what Decode returns.
func decodes(t *testing.T, s string) (is bool) {
	t.Helper()
	want := decoded(s)
	m, e := blocks.Decode(s)
	if want == nil {
		if m != nil || e != api.ErrFormat {
			t.Fatalf("Decode(%q) = %d; want ErrFormat", s, e)
		}
		return false
	}
	if m == nil || e != api.OK {
		t.Fatalf("Decode(%q) = %d; want OK", s, e)
	}
	check(t, m, want)
	return true
}

// P12.6
func TestDecode(t *testing.T) {
	for _, s := range []string{"\x0a\x03\x01\x06", "\x00\x01\x01\x00", "\x00\x01\x01\x01", "\x05\x08\x01\xff", "\x05\x09\x02\x81\x01", "\x80\x80\x80\x80\x04\x01\x01\x01", "\x00\x80\x80\x04\x80\x40" + strings.Repeat("\xa5", 8192)} {
		if !decodes(t, s) {
			t.Errorf("%q is no encoding", s[:min(len(s), 20)])
		}
	}
}

// P12.6
func TestDecodeErrors(t *testing.T) {
	for _, s := range []string{
		"", "\x0a", "\x0a\x03", "\x0a\x03\x01", "\x0a\x03\x02\x06", "\x0a\x03\x00", "\x0a\x03\x01\x06\x00", "\x0a\x03\x02\x06\x00", "\x0a\x03\x01\x0e", "\x0a\x03\x01\x86",
		"\x0a\x00\x00", "\x0a\x00\x01\x00", "\x8a\x00\x03\x01\x06", "\x0a\x83\x00\x01\x06", "\x0a\x03\x81\x00\x06", "\x80\x80\x80\x80\x04\x00\x00", "\x81\x80\x80\x80\x04\x01\x01\x01", "\x0a\x08\x00", "\x0a\x09\x01\xff", "\x0a\x09\x02\xff\x02", "\x0a\x08\x02\xff\x00",
		"\x00\x81\x80\x04\x81\x40" + strings.Repeat("\x00", 8193), "\x00\x80\x80\x04\xff\x3f" + strings.Repeat("\x00", 8191), "\x00\x80\x80\x04\x80\x40" + strings.Repeat("\x00", 8191), "\x00\xff\xff\xff\xff\xff\xff\xff\xff\x7f\x01\x00", strings.Repeat("\xff", 30), strings.Repeat("\x80", 9) + "\x01\x01\x01\x01",
	} {
		if decodes(t, s) {
			t.Errorf("%q is an encoding", s[:min(len(s), 20)])
		}
	}
}

// P12.6: among encodings with other bytes, fewer bytes and further bytes, only those of maps are accepted.
func TestDecodeChanged(t *testing.T) {
	random := rand.New(rand.NewPCG(4, 12))
	accepted := 0
	for range 4000 {
		m := newModel(random.IntN(400), 1+random.IntN(20))
		for i := range m.now {
			m.now[i] = random.IntN(2) == 0
		}
		b := []byte(m.encode())
		switch random.IntN(4) {
		case 0:
			b = b[:random.IntN(len(b))]
		case 1:
			b = append(b, byte(random.IntN(2)))
		default:
			b[random.IntN(len(b))] ^= 1 << random.IntN(8)
		}
		if decodes(t, string(b)) {
			accepted++
		}
	}
	if accepted == 0 || accepted == 4000 {
		t.Errorf("%d of 4000 accepted", accepted)
	}
}

// P12.6, P12.8: Decode after Encode is as Commit on a copy.
func TestInverse(t *testing.T) {
	random := rand.New(rand.NewPCG(5, 12))
	for range 500 {
		first, count := random.IntN(1<<30+1), 1+random.IntN(40)
		m, want := made(t, first, count), newModel(first, count)
		for range random.IntN(60) {
			act(t, random, m, want)
		}
		d, e := blocks.Decode(m.Encode())
		must(t, "Decode", e, api.OK)
		c := m.Clone()
		must(t, "Commit", c.Commit(), api.OK)
		if !d.Equal(c) || d.Encode() != m.Encode() {
			t.Fatal("Decode after Encode is not as Commit")
		}
		check(t, m, want)
	}
}
