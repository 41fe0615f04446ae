package state_test

import (
	"encoding/binary"
	"math/rand/v2"
	"slices"
	"strings"
	"testing"

	"replevin/api"
	"replevin/object"
	"replevin/state"
)

// number and text return encodings (layer 1).
func number(n int) string { return string(binary.AppendUvarint(nil, uint64(n))) }

func text(s string) string { return number(len(s)) + s }

// P5.5, P5.7
func TestDecode(t *testing.T) {
	random := rand.New(rand.NewPCG(4, 4))
	for range 300 {
		m := someModel(random, 60)
		b := m.encoding()
		s, e := state.Decode(b)
		if e != api.OK || !s.Equal(made(t, m)) {
			t.Fatalf("Decode(%q) = %d", b, e)
		}
		clear(b)
		check(t, s, m)
		clear(s.Encode())
		check(t, s, m)
		// A state that was decoded can be changed like others.
		x, e := s.Apply(m.diff(model{}))
		if e != api.OK || x.Len() != 0 {
			t.Fatal(e)
		}
		check(t, s, m)
	}
}

// P5.5: bytes are missing, or left.
func TestDecodeOfWrongLengths(t *testing.T) {
	random := rand.New(rand.NewPCG(5, 5))
	for range 10 {
		b := someModel(random, 20).encoding()
		for length := range len(b) {
			if s, e := state.Decode(b[:length]); s != nil || e != api.ErrTruncated {
				t.Fatalf("Decode(%q) = %d; want ErrTruncated", b[:length], e)
			}
		}
		for _, more := range []string{"\x00", "\x80", "abc"} {
			if s, e := state.Decode(append(slices.Clone(b), more...)); s != nil || e != api.ErrLong {
				t.Fatalf("Decode of %q and %q = %d; want ErrLong", b, more, e)
			}
		}
	}
}

// P5.5: the first error from the beginning.
func TestDecodeErrors(t *testing.T) {
	clock, epoch, wrong := text("\x0f"), text("\x14"), text("\x15")
	for _, c := range []struct {
		b    string
		want api.Errno
	}{
		// The number of objects.
		{"", api.ErrTruncated},
		{"\x80", api.ErrTruncated},
		{"\x80\x00", api.ErrFormat},
		{"\x81\x00" + clock + text(""), api.ErrFormat},
		{strings.Repeat("\xff", 9), api.ErrFormat},
		{number(65537), api.ErrRange},
		{number(65537) + wrong, api.ErrRange},
		{number(65536), api.ErrTruncated},
		{number(1 << 60), api.ErrRange},
		// Names.
		{"\x01", api.ErrTruncated},
		{"\x01\x80", api.ErrTruncated},
		{"\x01\x81\x00\x0f\x00", api.ErrFormat},
		{"\x01" + strings.Repeat("\x80", 9), api.ErrFormat},
		{"\x01\x05\x0f", api.ErrTruncated},
		{"\x01" + number(65537), api.ErrLong},
		{"\x01" + number(65536), api.ErrTruncated},
		{"\x01" + text(strings.Repeat("\x0f", 65536)), api.ErrFormat},
		{"\x01" + text(strings.Repeat("\x0f", 65537)) + text(""), api.ErrLong},
		{"\x01" + text(""), api.ErrFormat},
		{"\x01" + wrong, api.ErrFormat},
		{"\x01" + text("\x0f\x00") + text(""), api.ErrFormat},
		{"\x01" + text("\x8f\x00") + text(""), api.ErrFormat},
		{"\x01" + text("\x01\x010") + text(""), api.ErrFormat},
		{"\x01" + wrong + "\x80", api.ErrFormat},
		// The order of names, before the value.
		{"\x02" + clock + text("a") + clock + text("a"), api.ErrSequence},
		{"\x02" + epoch + text("a") + clock + text("a"), api.ErrSequence},
		{"\x02" + epoch + text("a") + clock, api.ErrSequence},
		{"\x02" + epoch + text("a") + clock + number(65537), api.ErrSequence},
		{"\x02" + epoch + text("a") + wrong, api.ErrFormat},
		{"\x02" + epoch + text("a") + number(65537), api.ErrLong},
		{"\x02" + text("\x01\x0210") + text("") + text("\x01\x019") + text(""), api.ErrSequence},
		{"\x03" + clock + text("a") + epoch + text("b") + clock + text("c"), api.ErrSequence},
		// Values.
		{"\x01" + clock, api.ErrTruncated},
		{"\x01" + clock + "\x02a", api.ErrTruncated},
		{"\x01" + clock + "\x81\x00a", api.ErrFormat},
		{"\x01" + clock + number(65537), api.ErrLong},
		{"\x01" + clock + number(65536), api.ErrTruncated},
		{"\x01" + clock + text(strings.Repeat("x", 65537)), api.ErrLong},
		{"\x02" + epoch + number(65537) + clock, api.ErrLong},
		{"\x02" + epoch + "\x80\x00" + wrong, api.ErrFormat},
		{"\x02" + clock + text("a"), api.ErrTruncated},
		// What is left.
		{"\x00\x00", api.ErrLong},
		{"\x00" + clock, api.ErrLong},
		{"\x01" + clock + text("a") + epoch + text("b"), api.ErrLong},
		{"\x01" + clock + text("a") + "\x80", api.ErrLong},
	} {
		if s, e := state.Decode([]byte(c.b)); s != nil || e != c.want {
			t.Errorf("Decode(%.60q) = %v, %d; want %d", c.b, s, e, c.want)
		}
	}
	value := strings.Repeat("x", 65536)
	if s, e := state.Decode([]byte("\x01" + clock + text(value))); e != api.OK || s.Bytes() != 65536 {
		t.Errorf("Decode of a long value = %d", e)
	}
	if s, e := state.Decode([]byte("\x02" + text("\x01\x019") + text("") + text("\x01\x0210") + text("v"))); e != api.OK || !s.Equal(made(t, model{object.OfProcess("9"): "", object.OfProcess("10"): "v"})) {
		t.Errorf("Decode = %d", e)
	}
}

// P5.7: bytes that are accepted are the encoding of the state.
func TestDecodeOfChangedEncodings(t *testing.T) {
	random := rand.New(rand.NewPCG(6, 6))
	accepted := 0
	for range 30000 {
		b := someModel(random, 4).encoding()
		for range 1 + random.IntN(2) {
			b[random.IntN(len(b))] = byte([]int{0, 1, 2, 3, 15, 20, 128, 255, random.IntN(256)}[random.IntN(9)])
		}
		s, e := state.Decode(b)
		if e != api.OK {
			if s != nil {
				t.Fatalf("Decode(%q) returns a state and %d", b, e)
			}
			continue
		}
		accepted++
		if !slices.Equal(s.Encode(), b) {
			t.Fatalf("%q is encoded as %q", b, s.Encode())
		}
	}
	if accepted < 1000 {
		t.Errorf("only %d encodings were accepted", accepted)
	}
}
