package pack_test

import (
	"bytes"
	"math/rand/v2"
	"slices"
	"strings"
	"testing"

	"replevin/api"
	"replevin/pack"
)

// The sizes of the chapter.
func TestSizes(t *testing.T) {
	if pack.Window != 4096 || pack.MinMatch != 4 || pack.MaxMatch != 131 || pack.MaxRun != 128 || pack.MaxBytes != 1<<20 {
		t.Error(pack.Window, pack.MinMatch, pack.MaxMatch, pack.MaxRun, pack.MaxBytes)
	}
}

// P15.1: the examples of the chapter, and the bounds of the lengths.
func TestPack(t *testing.T) {
	hundred := strings.Repeat("x", 100)
	for _, x := range []struct{ b, want string }{
		{"", ""}, {"a", "\x00a"}, {"abcd", "\x03abcd"}, {"abababab", "\x01ab\x82\x00\x01"},
		{"aaaa", "\x03aaaa"}, {"aaaaa", "\x00a\x80\x00\x00"}, {"aaaaaa", "\x00a\x81\x00\x00"},
		{"abcXabc", "\x06abcXabc"}, {"abcdXabcd", "\x04abcdX\x80\x00\x04"}, {"abcdXabcdY", "\x04abcdX\x80\x00\x04\x00Y"},
		{"\x00\x00\x00\x00\x00", "\x00\x00\x80\x00\x00"}, {"\xff\xff\xff\xff\xff\xff", "\x00\xff\x81\x00\x00"},
		{hundred + hundred[:32], "\x00x\xff\x00\x00"}, {hundred + hundred[:33], "\x00x\xff\x00\x00\x00x"}, {hundred + hundred[:36], "\x00x\xff\x00\x00\x80\x00\x00"},
	} {
		for _, pack := range []func(b []byte) ([]byte, api.Errno){pack.Pack, func(b []byte) ([]byte, api.Errno) { return pack.PackWith([]byte{}, b) }} {
			if p, e := pack([]byte(x.b)); e != api.OK || string(p) != x.want {
				t.Errorf("Pack(%q) = %q, %d; want %q", x.b, p, e, x.want)
			}
		}
	}
}

// P15.1: of matches with the same length, the one with the smallest distance, but a longer one at any distance.
func TestMatchesAreTheBest(t *testing.T) {
	for _, x := range []struct{ dict, b, want string }{
		{"abcdeXabcdY", "abcd", "\x80\x00\x04"},
		{"abcdeXabcdY", "abcde", "\x81\x00\x0a"},
		{"abcdeXabcdeYabcd", "abcdef", "\x81\x00\x09\x00f"},
		{"hello world", "world, hello", "\x81\x00\x04\x01, \x81\x00\x11"},
		{"abc", "abcd", "\x03abcd"}, {"abcd", "abc", "\x02abc"}, {"abcd", "", ""}, {"xab", "ababab", "\x82\x00\x01"},
		// The match is taken, although there is a longer one from the next byte on.
		{"abcd-bcdefgh", "abcdefgh", "\x80\x00\x0b\x80\x00\x07"},
	} {
		if p, e := pack.PackWith([]byte(x.dict), []byte(x.b)); e != api.OK || string(p) != x.want {
			t.Errorf("PackWith(%q, %q) = %q, %d; want %q", x.dict, x.b, p, e, x.want)
		}
		checkPack(t, []byte(x.dict), []byte(x.b))
	}
}

// P15.1
func TestPackIsCanonical(t *testing.T) {
	random := rand.New(rand.NewPCG(1, 15))
	for i := range 3000 {
		letters := []int{1, 2, 3, 20, 256}[i%5]
		all := someBytes(random, random.IntN(600), letters)
		cut := random.IntN(len(all) + 1)
		if random.IntN(4) == 0 {
			cut = 0
		}
		checkPack(t, all[:cut], all[cut:])
	}
}

// P15.1: matches as far away as possible, in the text and in the dictionary, which may be longer than the window.
func TestWindow(t *testing.T) {
	random := rand.New(rand.NewPCG(2, 15))
	noise := make([]byte, 10000)
	for i := range noise {
		noise[i] = byte(random.IntN(256))
	}
	for distance := 4090; distance < 4103; distance++ {
		for _, before := range []int{0, 1, 5000} {
			text := append(bytes.Clone(noise[:before+distance]), noise[before:before+20]...)
			for _, cut := range []int{0, before + 3, before + distance, before + distance + 7} {
				p := checkPack(t, text[:cut], text[cut:])
				if is := bytes.HasSuffix(p, bytesOf(pack.Token{Distance: distance, Length: 20})); cut <= before+distance && is != (distance <= 4096) {
					t.Errorf("a match of the distance %d: %v", distance, is)
				}
			}
		}
	}
	for _, letters := range []int{2, 4, 256} {
		text := someBytes(random, 12000, letters)
		checkPack(t, nil, text)
		checkPack(t, text[:5000], text[5000:])
	}
}

// P15.1: places that left the window long ago are not found again.
func TestOldPlaces(t *testing.T) {
	random := rand.New(rand.NewPCG(3, 15))
	var text []byte
	for range 40 {
		text = append(text, "abcdefgh"[:4+random.IntN(5)]...)
		for range random.IntN(2500) {
			text = append(text, byte(random.IntN(256)))
		}
	}
	checkPack(t, nil, text)
	checkPack(t, text[:20000], text[20000:])
}

// P15.1: runs are as long as possible.
func TestRuns(t *testing.T) {
	random := rand.New(rand.NewPCG(4, 15))
	for _, n := range []int{1, 2, 127, 128, 129, 255, 256, 257, 384, 385, 1000} {
		b := make([]byte, n)
		for i := range b {
			b[i] = byte(i*i/7 + i*31 + random.IntN(3)*85)
		}
		if p := checkPack(t, nil, b); len(canonical(nil, b)) == (n+127)/128 && len(p) != n+(n+127)/128 {
			t.Errorf("%d literals have %d bytes", n, len(p))
		}
		// A match ends a run, so the next one begins anew.
		checkPack(t, nil, slices.Concat(b, b[:min(n, 5)], b[n/2:n/2+1], b))
	}
}

// P15.1
func TestPackLimits(t *testing.T) {
	most := bytes.Repeat([]byte("abcdefgh"), pack.MaxBytes/8)
	tooLong := append(bytes.Clone(most), 'a')
	for i, x := range []struct {
		dict, b []byte
		want    api.Errno
	}{
		{nil, most, api.OK}, {most, most, api.OK}, {most, nil, api.OK},
		{nil, tooLong, api.ErrLong}, {tooLong, nil, api.ErrLong}, {tooLong, most, api.ErrLong}, {most, tooLong, api.ErrLong}, {tooLong, tooLong, api.ErrLong},
	} {
		p, e := pack.PackWith(x.dict, x.b)
		if e != x.want || e != api.OK && p != nil {
			t.Errorf("%d: PackWith = %d bytes, %d; want %d", i, len(p), e, x.want)
		}
		if b, _, e := pack.UnpackWith(x.dict, p, pack.MaxBytes); x.want == api.OK && (e != api.OK || !bytes.Equal(b, x.b)) {
			t.Errorf("%d: UnpackWith = %d bytes, %d", i, len(b), e)
		}
		if x.dict != nil {
			continue
		}
		if p, e := pack.Pack(x.b); e != x.want || e != api.OK && p != nil {
			t.Errorf("%d: Pack = %d bytes, %d; want %d", i, len(p), e, x.want)
		}
	}
}

// P15.4
func TestBound(t *testing.T) {
	for n, want := range map[int]int{0: 0, 1: 2, 2: 3, 127: 128, 128: 129, 129: 131, 256: 258, 257: 260, 1000: 1008, pack.MaxBytes - 1: pack.MaxBytes + 8191, pack.MaxBytes: pack.MaxBytes + 8192} {
		if got, e := pack.Bound(n); got != want || e != api.OK {
			t.Errorf("Bound(%d) = %d, %d; want %d", n, got, e, want)
		}
	}
	for _, n := range []int{-1, -large - 1, pack.MaxBytes + 1, large} {
		if got, e := pack.Bound(n); got != 0 || e != api.ErrRange {
			t.Errorf("Bound(%d) = %d, %d; want ErrRange", n, got, e)
		}
	}
	random := rand.New(rand.NewPCG(5, 15))
	for range 300 {
		b := someBytes(random, random.IntN(2000), []int{2, 30, 256}[random.IntN(3)])
		bound, e := pack.Bound(len(b))
		for _, dict := range [][]byte{nil, someBytes(random, 100, 30), b} {
			if p, f := pack.PackWith(dict, b); e != api.OK || f != api.OK || len(p) > bound {
				t.Fatalf("%d bytes are packed in %d; Bound is %d", len(b), len(p), bound)
			}
		}
	}
}

// P15.6
func TestWhatIsRepeatedIsCheap(t *testing.T) {
	for _, part := range []string{"x", "abc", strings.Repeat("0123456789", 50) + "end", strings.Repeat("ab", 100) + "c"} {
		once, _ := pack.Pack([]byte(part))
		for _, times := range []int{2, 10, 131, 500} {
			p, e := pack.Pack([]byte(strings.Repeat(part, times)))
			more := len(part) * (times - 1)
			if most := len(once) + 3*(more/131+2) + 8; e != api.OK || len(p) > most {
				t.Errorf("%d times %d bytes are packed in %d bytes; want at most %d", times, len(part), len(p), most)
			}
		}
	}
	p, _ := pack.Pack(make([]byte, 1+131*100))
	if len(p) != 2+3*100 {
		t.Errorf("100 times 131 bytes cost %d", len(p)-2)
	}
}

// P15.6
func TestPackArguments(t *testing.T) {
	dict, b := []byte("hello world and more"), []byte("world, hello world")
	dictMemory, memory := append(dict, "after"...)[:len(dict)], append(b, "after"...)[:len(b)]
	p, _ := pack.PackWith(dictMemory, memory)
	again, _ := pack.PackWith(dictMemory, memory)
	if string(dictMemory[:cap(dictMemory)][len(dict):len(dict)+5]) != "after" || string(memory[:len(b)+5]) != "world, hello worldafter" {
		t.Error("PackWith has changed its arguments")
	}
	want := bytes.Clone(p)
	clear(dictMemory)
	clear(memory)
	if !bytes.Equal(p, want) {
		t.Error("PackWith has retained its arguments")
	}
	clear(p)
	if !bytes.Equal(again, want) {
		t.Error("two results of PackWith share memory")
	}
	// Literals only, so that the packed form contains its argument as it is.
	b = []byte("abcdefgh")
	p, _ = pack.Pack(b)
	clear(p)
	if string(b) != "abcdefgh" {
		t.Error("the result of Pack shares memory with its argument")
	}
}
