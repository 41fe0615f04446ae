package frame_test

import (
	"math/rand/v2"
	"slices"
	"strings"
	"testing"

	"replevin/api"
	"replevin/frame"
)

// P10.4
func TestScan(t *testing.T) {
	random := rand.New(rand.NewPCG(4, 10))
	for range 200 {
		stream, number := random.IntN(1000), random.IntN(1000)
		l, s := series(random, stream, number, random.IntN(5))
		_, other := series(random, stream+random.IntN(2), number+len(l)+1, 1)
		for _, x := range []struct {
			rest string
			why  api.Errno
		}{
			{"", api.OK}, {"\x00", api.ErrFormat}, {"\xf5", api.ErrTruncated}, {other, api.ErrSequence}, {other[:len(other)-1], api.ErrTruncated}, {flipped(other, len(other)-1, 1), api.ErrChecksum}, {flipped(other, 20, 1), api.ErrChecksum},
			{raw(0, 1<<31, uint64(number+len(l)), 0, ""), api.ErrRange}, {raw(0, uint32(stream), uint64(number+len(l)), 1<<18+1, ""), api.ErrLong},
		} {
			got, end, why := frame.Scan(s+x.rest, stream, number)
			if !equal(got, l) || end != len(s) || why != x.why {
				t.Fatalf("Scan of %d frames = %d, %d, %d; want %d, %d", len(l), len(got), end, why, len(s), x.why)
			}
		}
	}
}

// P10.4
func TestSequence(t *testing.T) {
	random := rand.New(rand.NewPCG(5, 10))
	l, s := series(random, 7, 10, 3)
	again := s + s
	for _, x := range []struct {
		stream, number, count int
		why                   api.Errno
	}{
		{7, 10, 3, api.ErrSequence}, {7, 9, 0, api.ErrSequence}, {7, 11, 0, api.ErrSequence}, {6, 10, 0, api.ErrSequence}, {8, 10, 0, api.ErrSequence}, {0, 0, 0, api.ErrSequence}, {frame.MaxStream, frame.MaxNumber, 0, api.ErrSequence},
		{-1, 10, 0, api.ErrRange}, {7, -1, 0, api.ErrRange}, {frame.MaxStream + 1, 10, 0, api.ErrRange}, {7, frame.MaxNumber + 1, 0, api.ErrRange}, {large, 10, 0, api.ErrRange}, {7, large, 0, api.ErrRange}, {-large - 1, -large - 1, 0, api.ErrRange},
	} {
		end := 0
		if x.count > 0 {
			end = len(s)
		}
		if got, at, why := frame.Scan(again, x.stream, x.number); !equal(got, l[:x.count]) || at != end || why != x.why {
			t.Errorf("Scan(%d, %d) = %d frames, %d, %d", x.stream, x.number, len(got), at, why)
		}
		want := api.OK
		if x.why == api.ErrRange {
			want = api.ErrRange
		}
		if got, at, why := frame.Scan("", x.stream, x.number); len(got) != 0 || at != 0 || why != want {
			t.Errorf("Scan of nothing (%d, %d) = %d frames, %d, %d", x.stream, x.number, len(got), at, why)
		}
	}
	last, s := series(random, frame.MaxStream, frame.MaxNumber-1, 2)
	for _, rest := range []string{"", bytesOf(last[1]), bytesOf(last[0]), raw(0, frame.MaxStream, 0, 0, "")} {
		want := api.OK
		if rest != "" {
			want = api.ErrSequence
		}
		if got, end, why := frame.Scan(s+rest, frame.MaxStream, frame.MaxNumber-1); !equal(got, last) || end != len(s) || why != want {
			t.Errorf("Scan up to the greatest number = %d frames, %d, %d", len(got), end, why)
		}
	}
}

// P10.8: frames ahead of a place where bytes are cut off or damaged are found.
func TestScanOfDamage(t *testing.T) {
	random := rand.New(rand.NewPCG(6, 10))
	for range 20 {
		l, s := series(random, 3, 5, 4)
		count, next := 0, len(bytesOf(l[0]))
		for at := range s {
			if at == next {
				count++
				next += len(bytesOf(l[count]))
			}
			begin := next - len(bytesOf(l[count]))
			want := api.ErrTruncated
			if at == begin {
				want = api.OK
			}
			if got, end, why := frame.Scan(s[:at], 3, 5); !equal(got, l[:count]) || end != begin || why != want {
				t.Fatalf("Scan of the first %d of %d bytes = %d frames, %d, %d", at, len(s), len(got), end, why)
			}
			got, end, why := frame.Scan(flipped(s, at, byte(1+random.IntN(255))), 3, 5)
			if !equal(got, l[:count]) || end != begin || why != api.ErrChecksum && why != api.ErrFormat {
				t.Fatalf("Scan with damage at %d of %d = %d frames, %d, %d", at, len(s), len(got), end, why)
			}
		}
	}
}

// P10.5
func TestSalvage(t *testing.T) {
	random := rand.New(rand.NewPCG(7, 10))
	for range 300 {
		var want []frame.Place
		s := ""
		for range random.IntN(5) {
			switch random.IntN(4) {
			case 0:
				s += someText(random, random.IntN(60))
			case 1:
				// A damaged frame, whose payload may be a frame.
				inner := someFrame(random)
				outer := frame.Frame{Kind: 1, Payload: "xyz" + bytesOf(inner) + "xyz"}
				want = append(want, frame.Place{At: len(s) + frame.HeaderSize + 3, Frame: inner})
				s += flipped(bytesOf(outer), []int{0, 1, 20, frame.HeaderSize, len(outer.Payload) + frame.HeaderSize}[random.IntN(5)], 4)
			default:
				f := someFrame(random)
				want = append(want, frame.Place{At: len(s), Frame: f})
				s += bytesOf(f)
			}
		}
		if l := frame.Salvage(s); !slices.Equal(l, want) {
			t.Fatalf("Salvage of %q = %v; want %v", s, l, want)
		}
	}
}

// P10.5
func TestSalvageOfFewBytes(t *testing.T) {
	f := frame.Frame{Kind: 1, Stream: 2, Number: 3, Payload: "ab"}
	s := bytesOf(f)
	nested := bytesOf(frame.Frame{Payload: s})
	for i, x := range []struct {
		s  string
		at []int
	}{
		{"", nil}, {"\xf5", nil}, {s[1:], nil}, {s[:43], nil}, {strings.Repeat("\xf5", 200), nil}, {s, []int{0}}, {"\xf5" + s, []int{1}}, {s + s, []int{0, 44}}, {s[:43] + s, []int{43}}, {s + "\x00" + s[:20] + s + s[:40], []int{0, 65}},
		{nested[1:], []int{25}}, {nested[:len(nested)-1], []int{26}}, {s[:1] + s, []int{1}},
	} {
		var want []frame.Place
		for _, at := range x.at {
			want = append(want, frame.Place{At: at, Frame: f})
		}
		if l := frame.Salvage(x.s); !slices.Equal(l, want) {
			t.Errorf("%d: Salvage = %v; want %v", i, l, want)
		}
	}
	// A frame within one that is taken is not found.
	if l := frame.Salvage(nested); len(l) != 1 || l[0].At != 0 || l[0].Frame.Payload != s {
		t.Errorf("Salvage of a frame within a frame = %v", l)
	}
}
