package frame_test

import (
	"math/rand/v2"
	"strings"
	"testing"

	"replevin/api"
	"replevin/frame"
)

// P10.1, P10.2
func TestCheck(t *testing.T) {
	longest := strings.Repeat("p", frame.MaxPayload)
	for i, x := range []struct {
		f    frame.Frame
		want api.Errno
	}{
		{frame.Frame{}, api.OK}, {frame.Frame{Kind: 255, Stream: 1<<31 - 1, Number: 1<<40 - 1, Payload: longest}, api.OK},
		{frame.Frame{Kind: -1}, api.ErrKind}, {frame.Frame{Kind: 256}, api.ErrKind}, {frame.Frame{Kind: large}, api.ErrKind}, {frame.Frame{Kind: -large - 1}, api.ErrKind},
		{frame.Frame{Kind: 256, Stream: -1, Number: -1, Payload: longest + "p"}, api.ErrKind}, {frame.Frame{Kind: -1, Number: 1 << 40}, api.ErrKind}, {frame.Frame{Kind: 256, Payload: longest + "p"}, api.ErrKind},
		{frame.Frame{Stream: -1}, api.ErrRange}, {frame.Frame{Stream: 1 << 31}, api.ErrRange}, {frame.Frame{Stream: large}, api.ErrRange}, {frame.Frame{Stream: -large - 1}, api.ErrRange}, {frame.Frame{Stream: 1 << 32}, api.ErrRange},
		{frame.Frame{Number: -1}, api.ErrRange}, {frame.Frame{Number: 1 << 40}, api.ErrRange}, {frame.Frame{Number: large}, api.ErrRange}, {frame.Frame{Number: -large - 1}, api.ErrRange},
		{frame.Frame{Stream: -1, Payload: longest + "p"}, api.ErrRange}, {frame.Frame{Number: 1 << 40, Payload: longest + "p"}, api.ErrRange},
		{frame.Frame{Payload: longest + "p"}, api.ErrLong}, {frame.Frame{Kind: 255, Stream: 1<<31 - 1, Number: 1<<40 - 1, Payload: longest + longest}, api.ErrLong},
	} {
		if e := x.f.Check(); e != x.want {
			t.Errorf("%d: Check = %d; want %d", i, e, x.want)
		}
		s, e := frame.Encode(x.f)
		if e != x.want || (s == "") != (e != api.OK) {
			t.Errorf("%d: Encode = %d bytes, %d; want %d", i, len(s), e, x.want)
		}
	}
}

// P10.1
func TestSize(t *testing.T) {
	for _, x := range []struct {
		n, want int
		e       api.Errno
	}{
		{0, 42, api.OK}, {1, 43, api.OK}, {2, 44, api.OK}, {frame.MaxPayload, 262186, api.OK},
		{-1, 0, api.ErrRange}, {-42, 0, api.ErrRange}, {frame.MaxPayload + 1, 0, api.ErrRange}, {large, 0, api.ErrRange}, {-large - 1, 0, api.ErrRange},
	} {
		if size, e := frame.Size(x.n); size != x.want || e != x.e {
			t.Errorf("Size(%d) = %d, %d; want %d, %d", x.n, size, e, x.want, x.e)
		}
	}
}

// P10.2, P10.3, P10.8: the bytes are those of the chapter's Terms, and Decode finds the frame in them, whatever follows.
func TestEncode(t *testing.T) {
	random := rand.New(rand.NewPCG(1, 10))
	l := []frame.Frame{
		{}, {Kind: 1, Stream: 2, Number: 3, Payload: "ab"}, {Kind: 255, Stream: frame.MaxStream, Number: frame.MaxNumber}, {Kind: 245, Stream: 0x01020304, Number: 0x0506070809, Payload: "\xf5"},
		{Payload: strings.Repeat("p", frame.MaxPayload)}, {Payload: strings.Repeat("\x00", frame.MaxPayload-1)}, {Payload: strings.Repeat("q", 0x1234)},
	}
	for range 500 {
		l = append(l, someFrame(random))
	}
	for _, f := range l {
		s := encoded(t, f)
		if s != bytesOf(f) {
			t.Fatalf("Encode(%d, %d, %d, %d bytes) = %q", f.Kind, f.Stream, f.Number, len(f.Payload), s)
		}
		size, _ := frame.Size(len(f.Payload))
		for _, rest := range []string{"", "\x00", "\xf5", s, someText(random, 30)} {
			if g, n, e := frame.Decode(s + rest); g != f || n != size || n != len(s) || e != api.OK {
				t.Fatalf("Decode of %d bytes with %d behind = %d, %d", len(s), len(rest), n, e)
			}
		}
	}
	if s := encoded(t, l[3]); s[:18] != "\xf5\xf5\x01\x02\x03\x04\x00\x00\x00\x05\x06\x07\x08\x09\x00\x00\x00\x01" {
		t.Errorf("the fields are %q", s[:18])
	}
}

// P10.3: the errors, and which of them comes first.
func TestDecodeErrors(t *testing.T) {
	const none = "\x00\x00\x00\x00\x00\x00\x00\x00"
	good := raw(1, 2, 3, 2, "ab")
	high := raw(1, 1<<31, 3, 2, "ab")
	long := raw(1, 2, 3, frame.MaxPayload+1, "")
	for i, x := range []struct {
		s    string
		want api.Errno
	}{
		{"", api.ErrTruncated}, {"\x00", api.ErrFormat}, {"\xf4" + good[1:], api.ErrFormat}, {"\x00" + good, api.ErrFormat}, {"\xf6" + good[1:10], api.ErrFormat}, {"\xf5", api.ErrTruncated}, {good[:25], api.ErrTruncated}, {flipped(good, 1, 1)[:25], api.ErrTruncated},
		{flipped(good, 1, 1), api.ErrChecksum}, {flipped(good, 17, 1)[:26], api.ErrChecksum}, {flipped(good, 18, 1), api.ErrChecksum}, {flipped(good, 25, 128)[:26], api.ErrChecksum}, {flipped(high, 20, 1), api.ErrChecksum}, {flipped(long, 20, 1), api.ErrChecksum}, {good[:18] + none + good[26:], api.ErrChecksum},
		{high, api.ErrRange}, {high[:26], api.ErrRange}, {flipped(high, 30, 1), api.ErrRange}, {raw(0, 1<<32-1, 0, 0, ""), api.ErrRange}, {raw(0, 0, 1<<40, 0, ""), api.ErrRange}, {raw(0, 0, 1<<63-1, 0, ""), api.ErrRange}, {raw(0, 0, 1<<63, 0, ""), api.ErrRange}, {raw(0, 0, 1<<64-1, 0, ""), api.ErrRange}, {raw(0, 1<<31, 0, 1<<32-1, ""), api.ErrRange}, {raw(0, 0, 1<<40, frame.MaxPayload+1, ""), api.ErrRange}, {raw(0, 1<<31, 1<<40, 9, "")[:26], api.ErrRange},
		{long, api.ErrLong}, {long[:26], api.ErrLong}, {raw(0, 0, 0, 1<<32-1, ""), api.ErrLong}, {raw(0, 0, 0, 1<<31, ""), api.ErrLong}, {raw(0, 0, 0, frame.MaxPayload+1, strings.Repeat("p", frame.MaxPayload+1)), api.ErrLong},
		{good[:26], api.ErrTruncated}, {good[:43], api.ErrTruncated}, {flipped(good, 26, 1)[:43], api.ErrTruncated}, {raw(1, 2, 3, frame.MaxPayload, ""), api.ErrTruncated}, {raw(1, 2, 3, 1, ""), api.ErrTruncated},
		{flipped(good, 26, 1), api.ErrChecksum}, {flipped(good, 27, 128), api.ErrChecksum}, {flipped(good, 28, 1), api.ErrChecksum}, {flipped(good, 43, 1), api.ErrChecksum}, {good[:28] + none + none, api.ErrChecksum}, {raw(1, 2, 3, 1, "") + "a", api.ErrChecksum}, {good[:26] + raw(1, 2, 4, 2, "ab")[26:], api.ErrChecksum},
	} {
		if f, size, e := frame.Decode(x.s); f != (frame.Frame{}) || size != 0 || e != x.want {
			t.Errorf("%d: Decode of %q = %v, %d, %d; want %d", i, x.s[:min(len(x.s), 50)], f, size, e, x.want)
		}
	}
}

// P10.3: the greatest numbers of a header are in range.
func TestDecodeLimits(t *testing.T) {
	want := frame.Frame{Kind: 255, Stream: 1<<31 - 1, Number: 1<<40 - 1, Payload: strings.Repeat("z", 1<<18)}
	f, size, e := frame.Decode(raw(255, 1<<31-1, 1<<40-1, 1<<18, want.Payload))
	if f != want || size != 42+1<<18 || e != api.OK {
		t.Errorf("Decode = %d, %d", size, e)
	}
}

// P10.8
func TestBeginnings(t *testing.T) {
	random := rand.New(rand.NewPCG(2, 10))
	for range 60 {
		s := bytesOf(someFrame(random))
		for end := range len(s) {
			if f, size, e := frame.Decode(s[:end]); f != (frame.Frame{}) || size != 0 || e != api.ErrTruncated {
				t.Fatalf("Decode of the first %d of %d bytes = %v, %d, %d", end, len(s), f, size, e)
			}
		}
	}
}

// P10.8: no byte of a frame is without a check.
func TestOtherBytes(t *testing.T) {
	random := rand.New(rand.NewPCG(3, 10))
	for range 60 {
		s := bytesOf(someFrame(random))
		for at := range s {
			by := byte(1 + random.IntN(255))
			want := api.ErrChecksum
			if at == 0 {
				want = api.ErrFormat
			}
			if f, size, e := frame.Decode(flipped(s, at, by)); f != (frame.Frame{}) || size != 0 || e != want {
				t.Fatalf("Decode with another byte at %d of %d = %v, %d, %d", at, len(s), f, size, e)
			}
		}
	}
}
