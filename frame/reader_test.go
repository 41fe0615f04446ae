package frame_test

import (
	"math/rand/v2"
	"slices"
	"strings"
	"testing"

	"replevin/api"
	"replevin/frame"
)

func reader(t *testing.T, stream, number int) *frame.Reader {
	t.Helper()
	r, e := frame.NewReader(stream, number)
	if e != api.OK || r == nil {
		t.Fatalf("NewReader(%d, %d) = %d", stream, number, e)
	}
	return r
}

// checkReader tests what a Reader says of itself.
func checkReader(t *testing.T, r *frame.Reader, next, pending int, failed api.Errno) {
	t.Helper()
	if r.Next() != next || r.Pending() != pending || r.Failed() != failed {
		t.Fatalf("Next = %d, Pending = %d, Failed = %d; want %d, %d, %d", r.Next(), r.Pending(), r.Failed(), next, pending, failed)
	}
}

// P10.6
func TestNewReader(t *testing.T) {
	for _, x := range []struct {
		stream, number int
		want           api.Errno
	}{
		{0, 0, api.OK}, {frame.MaxStream, frame.MaxNumber, api.OK}, {3, 9, api.OK},
		{-1, 0, api.ErrRange}, {0, -1, api.ErrRange}, {frame.MaxStream + 1, 0, api.ErrRange}, {0, frame.MaxNumber + 1, api.ErrRange}, {-large - 1, 0, api.ErrRange}, {0, -large - 1, api.ErrRange}, {large, large, api.ErrRange},
	} {
		r, e := frame.NewReader(x.stream, x.number)
		if e != x.want || (r == nil) != (e != api.OK) {
			t.Errorf("NewReader(%d, %d) = %d", x.stream, x.number, e)
		}
		if e == api.OK {
			checkReader(t, r, x.number, 0, api.OK)
		}
	}
}

// P10.6, P10.8: what is fed in pieces has the result of Scan for all of it.
func TestFeed(t *testing.T) {
	random := rand.New(rand.NewPCG(8, 10))
	for range 400 {
		stream, number := random.IntN(5), random.IntN(5)
		if random.IntN(8) == 0 {
			stream, number = frame.MaxStream, frame.MaxNumber-random.IntN(3)
		}
		l, s := series(random, stream, number, random.IntN(min(5, frame.MaxNumber+1-number)+1))
		s += ending(random, stream, number+len(l))
		if s != "" && random.IntN(4) == 0 {
			s = flipped(s, random.IntN(len(s)), byte(1+random.IntN(255)))
		}
		for _, longest := range []int{1, 30, 100, len(s) + 1} {
			feedInPieces(t, random, s, stream, number, longest)
		}
	}
}

// ending returns bytes that may follow frames.
func ending(random *rand.Rand, stream, number int) string {
	switch random.IntN(6) {
	case 0:
		return bytesOf(someFrame(random))
	case 1:
		s := raw(0, uint32(stream), uint64(number), 5, "abcde")
		return s[:random.IntN(len(s))]
	case 2:
		return someText(random, random.IntN(50))
	case 3:
		return raw(0, 1<<31, 0, 0, "")
	case 4:
		return raw(0, 0, 0, 1<<20, "")
	}
	return ""
}

func feedInPieces(t *testing.T, random *rand.Rand, s string, stream, number, longest int) {
	t.Helper()
	r := reader(t, stream, number)
	var got []frame.Frame
	for at := 0; at < len(s); {
		end := min(len(s), at+random.IntN(longest+1))
		pieces, e := r.Feed(s[at:end])
		got = append(got, pieces...)
		l, size, why := scanned(s[:end], stream, number)
		if why == api.ErrTruncated {
			why = api.OK
		}
		pending := end - size
		if why != api.OK {
			pending = 0
		}
		if !equal(got, l) || e != why {
			t.Fatalf("Feed returned %d frames for %d bytes, and %d; want %d, %d", len(got), end, e, len(l), why)
		}
		checkReader(t, r, number+len(l), pending, why)
		if why != api.OK {
			failure(t, r, s[end:], why)
			return
		}
		at = end
	}
}

// failure tests that a Reader that has failed accepts nothing.
func failure(t *testing.T, r *frame.Reader, s string, why api.Errno) {
	t.Helper()
	before := r.Clone()
	for _, piece := range []string{"", s, bytesOf(frame.Frame{Number: r.Next()})} {
		if l, e := r.Feed(piece); len(l) != 0 || e != why || !r.Equal(before) {
			t.Fatalf("Feed after the error %d = %d frames, %d", why, len(l), e)
		}
	}
}

// P10.6: frames ahead of an error are returned with it.
func TestFramesWithAnError(t *testing.T) {
	random := rand.New(rand.NewPCG(9, 10))
	l, s := series(random, 1, 7, 3)
	for why, rest := range map[api.Errno]string{api.ErrFormat: "\x00\x00", api.ErrSequence: bytesOf(l[2]), api.ErrChecksum: flipped(bytesOf(l[2]), 30, 1), api.ErrRange: raw(0, 1<<31, 10, 0, ""), api.ErrLong: raw(0, 1, 10, 1<<30, "")} {
		r := reader(t, 1, 7)
		if got, e := r.Feed(s + rest); !equal(got, l) || e != why {
			t.Errorf("Feed = %d frames, %d; want %d", len(got), e, why)
		}
		checkReader(t, r, 10, 0, why)
		failure(t, r, s, why)
	}
}

// P10.6
func TestBehindTheGreatestNumber(t *testing.T) {
	last := bytesOf(frame.Frame{Stream: 4, Number: frame.MaxNumber, Payload: "last"})
	r := reader(t, 4, frame.MaxNumber)
	if l, e := r.Feed(last); len(l) != 1 || l[0].Payload != "last" || e != api.OK {
		t.Errorf("Feed = %v, %d", l, e)
	}
	checkReader(t, r, frame.MaxNumber+1, 0, api.OK)
	if l, e := r.Feed(""); len(l) != 0 || e != api.OK {
		t.Errorf("Feed of nothing = %v, %d", l, e)
	}
	if l, e := r.Feed(last[:40]); len(l) != 0 || e != api.OK {
		t.Errorf("Feed of a beginning = %v, %d", l, e)
	}
	checkReader(t, r, frame.MaxNumber+1, 40, api.OK)
	for _, s := range []string{last[40:], "xx", "x" + last} {
		c, want := r.Clone(), api.ErrChecksum
		if s == last[40:] {
			want = api.ErrSequence
		}
		if s == "xx" {
			want = api.OK
		}
		if l, e := c.Feed(s); len(l) != 0 || e != want {
			t.Errorf("Feed of %q = %v, %d; want %d", s, l, e, want)
		}
	}
	if l, e := reader(t, 4, frame.MaxNumber).Feed(last + raw(0, 4, 0, 0, "")); len(l) != 1 || e != api.ErrSequence {
		t.Errorf("Feed = %v, %d", l, e)
	}
}

// P10.6, P10.8: the longest frame, byte by byte.
func TestLongestFrame(t *testing.T) {
	f := frame.Frame{Kind: 3, Payload: strings.Repeat("abcd", frame.MaxPayload/4)}
	s := bytesOf(f)
	r := reader(t, 0, 0)
	for at := range len(s) - 1 {
		if l, e := r.Feed(s[at : at+1]); len(l) != 0 || e != api.OK {
			t.Fatalf("Feed = %d frames, %d", len(l), e)
		}
	}
	checkReader(t, r, 0, len(s)-1, api.OK)
	if l, e := r.Feed(s[len(s)-1:] + s[:5]); len(l) != 1 || l[0] != f || e != api.OK {
		t.Errorf("Feed = %d frames, %d", len(l), e)
	}
	checkReader(t, r, 1, 5, api.OK)
}

// P10.7
func TestClone(t *testing.T) {
	random := rand.New(rand.NewPCG(10, 10))
	l, s := series(random, 2, 6, 3)
	for at := range s {
		r := reader(t, 2, 6)
		got, _ := r.Feed(s[:at])
		c, unchanged := r.Clone(), r.Clone()
		if c == r || !c.Equal(r) || !r.Equal(c) {
			t.Fatalf("the clone after %d bytes is not an equal copy", at)
		}
		rest := got
		for i := at; i < len(s); i++ {
			// Both get further bytes in turn, but not the same ones.
			frames, e := r.Feed(s[i : i+1])
			if e != api.OK {
				t.Fatalf("Feed after a clone at %d = %d", at, e)
			}
			rest = slices.Concat(rest, frames)
			c.Feed(flipped(s, i, 255)[i : i+1])
		}
		if !equal(rest, l) || c.Equal(r) {
			t.Fatalf("a Reader that was cloned after %d bytes returns %d frames", at, len(rest))
		}
		if frames, e := unchanged.Feed(s[at:]); !equal(slices.Concat(got, frames), l) || e != api.OK || !unchanged.Equal(r) {
			t.Fatalf("Feed of a clone at %d = %d frames, %d", at, len(frames), e)
		}
	}
}

// P10.7
func TestEqual(t *testing.T) {
	f := func(number int, payload string) string { return bytesOf(frame.Frame{Number: number, Payload: payload}) }
	fed := func(stream, number int, pieces ...string) *frame.Reader {
		r := reader(t, stream, number)
		for _, s := range pieces {
			r.Feed(s)
		}
		return r
	}
	different := []*frame.Reader{
		nil, fed(0, 0), fed(1, 0), fed(0, 1), fed(2, 2), fed(0, 0, "\xf5"), fed(0, 0, "\xf5\x00"), fed(0, 0, "\xf5\x01"), fed(0, 1, "\xf5"), fed(1, 0, "\xf5"),
		fed(0, 0, "\x00"), fed(1, 0, "\x00"), fed(0, 1, "\x00"), fed(0, 0, f(1, "")), fed(0, 0, flipped(f(0, ""), 20, 1)), fed(0, 0, raw(0, 1<<31, 0, 0, "")), fed(0, 0, raw(0, 0, 0, 1<<30, "")),
		fed(0, 0, f(0, "a")+f(1, "a")+f(1, "a")),
	}
	for i, a := range different {
		for j, b := range different {
			if a.Equal(b) != (i == j) {
				t.Errorf("Equal of the Readers %d and %d = %t", i, j, a.Equal(b))
			}
		}
	}
	for i, x := range [][2]*frame.Reader{
		{fed(0, 0, f(0, "a")), fed(0, 1)}, {fed(0, 0, f(0, "a")), fed(0, 0, f(0, "other"))}, {fed(0, 0, f(0, "")[:9], f(0, "")[9:], f(1, "")[:5]), fed(0, 1, "\xf5", f(1, "")[1:5])},
		{fed(0, 0), new(frame.Reader)}, {fed(0, 0, ""), fed(0, 0)}, {fed(0, 0, "a"), fed(0, 0, "bb")}, {fed(0, 0, f(0, ""), "\x00"), fed(0, 1, "\x00")},
	} {
		if !x[0].Equal(x[1]) || !x[1].Equal(x[0]) {
			t.Errorf("%d: Equal = false", i)
		}
	}
}

// P10.6, P10.7
func TestNilReader(t *testing.T) {
	var r *frame.Reader
	if l, e := r.Feed("\x00"); len(l) != 0 || e != api.ErrArgument {
		t.Errorf("Feed = %v, %d", l, e)
	}
	checkReader(t, r, 0, 0, api.ErrArgument)
	if r.Clone() != nil || !r.Equal(nil) || r.Equal(new(frame.Reader)) || new(frame.Reader).Equal(r) {
		t.Error("Clone or Equal of nil")
	}
}
