package sha256_test

import (
	standard "crypto/sha256"
	"encoding/hex"
	"math/rand/v2"
	"strings"
	"testing"

	"replevin/api"
	"replevin/sha256"
)

// someText returns a text of any bytes.
func someText(random *rand.Rand, length int) string {
	b := make([]byte, length)
	for i := range b {
		b[i] = byte(random.IntN(256))
	}
	return string(b)
}

func someDigest(random *rand.Rand) sha256.Digest {
	return sha256.Digest([]byte(someText(random, sha256.Size)))
}

func TestConstants(t *testing.T) {
	if sha256.Size != 32 || sha256.BlockSize != 64 || sha256.MaxParts != 255 {
		t.Error(sha256.Size, sha256.BlockSize, sha256.MaxParts)
	}
}

// P2.1
func TestSumOfPublishedTexts(t *testing.T) {
	for s, want := range map[string]string{
		"":    "e3b0c44298fc1c149afbf4c8996fb92427ae41e4649b934ca495991b7852b855",
		"abc": "ba7816bf8f01cfea414140de5dae2223b00361a396177a9cb410ff61f20015ad",
		"abcdbcdecdefdefgefghfghighijhijkijkljklmklmnlmnomnopnopq":                                                         "248d6a61d20638b8e5c026930c3e6039a33ce45964ff2167f6ecedd419db06c1",
		"abcdefghbcdefghicdefghijdefghijkefghijklfghijklmghijklmnhijklmnoijklmnopjklmnopqklmnopqrlmnopqrsmnopqrstnopqrstu": "cf5b16a778af8380036ce59e7b0492370b249b11e8f07a51afac45037afee9d1",
		strings.Repeat("a", 1000000): "cdc76e5c9914fb9281a1c7e284d73e67f1809a48a497200e046d39ccc7112cd0",
	} {
		if d := sha256.Sum(s); hex.EncodeToString(d[:]) != want {
			t.Errorf("Sum of %d bytes = %x; want %s", len(s), d, want)
		}
	}
}

// P2.1: all lengths around the borders of blocks, with any bytes.
func TestSumOfAllLengths(t *testing.T) {
	random := rand.New(rand.NewPCG(1, 1))
	for length := range 600 {
		for _, s := range []string{someText(random, length), strings.Repeat("\x00", length), strings.Repeat("\xff", length)} {
			if got, want := sha256.Sum(s), standard.Sum256([]byte(s)); got != want {
				t.Fatalf("Sum of %d bytes = %x; want %x", length, got, want)
			}
		}
	}
}

// P2.1: the number of bits of the text has more than 32 bits.
func TestSumOfLongText(t *testing.T) {
	const piece, pieces = 1 << 20, 513
	s := strings.Repeat("0123456789abcdef", piece/16)
	h, want := sha256.New(), standard.New()
	for range pieces {
		h.Write(s)
		want.Write([]byte(s))
	}
	if got := h.Sum(); string(got[:]) != string(want.Sum(nil)) || h.Len() != piece*pieces {
		t.Errorf("Sum of %d bytes = %x; want %x", h.Len(), got, want.Sum(nil))
	}
}

// P2.2
func TestJoin(t *testing.T) {
	for _, c := range []struct {
		tag   byte
		parts []string
		want  string
	}{
		{7, []string{"a", ""}, "\x07\x02\x00\x00\x00\x01a\x00\x00\x00\x00"},
		{0, nil, "\x00\x00"},
		{255, []string{}, "\xff\x00"},
		{1, []string{""}, "\x01\x01\x00\x00\x00\x00"},
		{2, []string{"\x00\xff", "xyz"}, "\x02\x02\x00\x00\x00\x02\x00\xff\x00\x00\x00\x03xyz"},
		{3, []string{strings.Repeat("z", 255)}, "\x03\x01\x00\x00\x00\xff" + strings.Repeat("z", 255)},
		{3, []string{strings.Repeat("z", 256)}, "\x03\x01\x00\x00\x01\x00" + strings.Repeat("z", 256)},
		{3, []string{strings.Repeat("z", 0x10203)}, "\x03\x01\x00\x01\x02\x03" + strings.Repeat("z", 0x10203)},
		{3, []string{strings.Repeat("z", 0x1020304)}, "\x03\x01\x01\x02\x03\x04" + strings.Repeat("z", 0x1020304)},
	} {
		if s, e := sha256.Join(c.tag, c.parts...); s != c.want || e != api.OK {
			t.Errorf("Join(%d, %d texts) has %d bytes, %d; want %d bytes", c.tag, len(c.parts), len(s), e, len(c.want))
		}
		if d, e := sha256.Tagged(c.tag, c.parts...); d != standard.Sum256([]byte(c.want)) || e != api.OK {
			t.Errorf("Tagged(%d, %d texts) = %x, %d", c.tag, len(c.parts), d, e)
		}
	}
}

// P2.2
func TestJoinOfManyTexts(t *testing.T) {
	parts := make([]string, 300)
	for i := range parts {
		parts[i] = "t"
	}
	for _, count := range []int{254, 255} {
		want := "\x09" + string([]byte{byte(count)}) + strings.Repeat("\x00\x00\x00\x01t", count)
		if s, e := sha256.Join(9, parts[:count]...); s != want || e != api.OK {
			t.Errorf("Join of %d texts = %q, %d", count, s, e)
		}
		if d, e := sha256.Tagged(9, parts[:count]...); d != standard.Sum256([]byte(want)) || e != api.OK {
			t.Errorf("Tagged of %d texts = %x, %d", count, d, e)
		}
	}
	for _, count := range []int{256, 257, 300} {
		if s, e := sha256.Join(9, parts[:count]...); s != "" || e != api.ErrLimit {
			t.Errorf("Join of %d texts = %q, %d; want ErrLimit", count, s, e)
		}
		if d, e := sha256.Tagged(9, parts[:count]...); d != (sha256.Digest{}) || e != api.ErrLimit {
			t.Errorf("Tagged of %d texts = %x, %d; want ErrLimit", count, d, e)
		}
	}
}

// P2.2, P2.6
func TestJoinedTextsDiffer(t *testing.T) {
	type list struct {
		tag   byte
		parts []string
	}
	lists := []list{
		{0, nil}, {1, nil}, {0, []string{""}}, {0, []string{"", ""}}, {1, []string{""}}, {0, []string{"abc"}},
		{0, []string{"ab", "c"}}, {0, []string{"a", "bc"}}, {0, []string{"abc", ""}}, {0, []string{"", "abc"}},
		{0, []string{"a", "b", "c"}}, {0, []string{"a\x00\x00\x00\x01b", "c"}}, {0, []string{"a", "b\x00\x00\x00\x01c"}},
		{0, []string{"c", "b", "a"}}, {0, []string{"\x00"}}, {0, []string{"\x00\x00"}},
	}
	joined := map[string]int{}
	digests := map[sha256.Digest]int{}
	for i, l := range lists {
		s, _ := sha256.Join(l.tag, l.parts...)
		d, _ := sha256.Tagged(l.tag, l.parts...)
		if other, ok := joined[s]; ok {
			t.Errorf("the lists %q and %q have the same joined text", lists[other].parts, l.parts)
		}
		if other, ok := digests[d]; ok {
			t.Errorf("the lists %q and %q have the same digest", lists[other].parts, l.parts)
		}
		joined[s], digests[d] = i, i
	}
}

// P2.6
func TestJoinLeavesItsArguments(t *testing.T) {
	parts := []string{"one", "two", "", "three"}
	first, _ := sha256.Join(1, parts[:2]...)
	sha256.Tagged(1, parts[:2]...)
	if strings.Join(parts, " ") != "one two  three" {
		t.Errorf("the texts are now %q", parts)
	}
	parts[0] = "changed"
	if first != "\x01\x02\x00\x00\x00\x03one\x00\x00\x00\x03two" {
		t.Errorf("the joined text is now %q", first)
	}
}

// P2.3
func TestCompare(t *testing.T) {
	random := rand.New(rand.NewPCG(2, 2))
	for i := range sha256.Size {
		a := someDigest(random)
		b := a
		for _, bytes := range [][2]byte{{0, 1}, {0, 255}, {127, 128}, {1, 128}, {254, 255}} {
			a[i], b[i] = bytes[0], bytes[1]
			for j := i + 1; j < sha256.Size; j++ {
				// What comes behind the first difference does not matter.
				a[j], b[j] = 255, 0
			}
			if sha256.Compare(a, b) != -1 || sha256.Compare(b, a) != 1 || sha256.Compare(a, a) != 0 || sha256.Compare(b, b) != 0 {
				t.Errorf("Compare of %s and %s", a, b)
			}
		}
	}
}

// P2.3
func TestIsZero(t *testing.T) {
	if !(sha256.Digest{}).IsZero() {
		t.Error("the zero Digest")
	}
	for i := range sha256.Size {
		for _, b := range []byte{1, 16, 128, 255} {
			var d sha256.Digest
			d[i] = b
			if d.IsZero() {
				t.Errorf("%s is zero", d)
			}
		}
	}
}

// P2.3, P2.4, P2.6
func TestStringAndParse(t *testing.T) {
	random := rand.New(rand.NewPCG(3, 3))
	digests := []sha256.Digest{{}, sha256.Sum("")}
	for i := range 256 {
		d := someDigest(random)
		d[i%sha256.Size] = byte(i)
		digests = append(digests, d)
	}
	for i, d := range digests {
		s := d.String()
		if want := hex.EncodeToString(d[:]); s != want {
			t.Errorf("String = %s; want %s", s, want)
		}
		if parsed, at, e := sha256.Parse(s); parsed != d || at != 0 || e != api.OK {
			t.Errorf("Parse(%s) = %s, %d, %d", s, parsed, at, e)
		}
		other := digests[(i+1)%len(digests)]
		if sha256.Compare(d, other) != strings.Compare(s, other.String()) {
			t.Errorf("the order of %s and %s is not that of their texts", d, other)
		}
	}
	if s := sha256.Sum("abc").String(); s != "ba7816bf8f01cfea414140de5dae2223b00361a396177a9cb410ff61f20015ad" {
		t.Errorf("String = %s", s)
	}
}

// P2.4
func TestParseErrors(t *testing.T) {
	digits := strings.Repeat("0123456789abcdef", 4)
	for _, c := range []struct {
		s    string
		at   int
		want api.Errno
	}{
		{"", 0, api.ErrShort},
		{"0", 1, api.ErrShort},
		{"00", 2, api.ErrShort},
		{digits[:63], 63, api.ErrShort},
		{"0A", 1, api.ErrByte},
		{"x", 0, api.ErrByte},
		{"0\xe9", 1, api.ErrByte},
		{digits + "0", 64, api.ErrLong},
		{digits + "x", 64, api.ErrLong},
		{digits + digits, 64, api.ErrLong},
		{digits[:63] + "x", 63, api.ErrByte},
		{digits[:63] + "x0", 63, api.ErrByte},
		{digits[:5] + "x" + digits, 5, api.ErrByte},
		{digits[:5] + "xy", 5, api.ErrByte},
		{"0x" + digits[:62], 1, api.ErrByte},
		{strings.ToUpper(digits), 10, api.ErrByte},
	} {
		if d, at, e := sha256.Parse(c.s); d != (sha256.Digest{}) || at != c.at || e != c.want {
			t.Errorf("Parse(%q) = %s, %d, %d; want %d, %d", c.s, d, at, e, c.at, c.want)
		}
	}
	for at := range 64 {
		for b := range 256 {
			s := digits[:at] + string([]byte{byte(b)}) + digits[at+1:]
			d, gotAt, e := sha256.Parse(s)
			if b >= '0' && b <= '9' || b >= 'a' && b <= 'f' {
				if d.String() != s || gotAt != 0 || e != api.OK {
					t.Errorf("Parse(%q) = %s, %d, %d", s, d, gotAt, e)
				}
			} else if !d.IsZero() || gotAt != at || e != api.ErrByte {
				t.Errorf("Parse(%q) = %s, %d, %d; want %d, ErrByte", s, d, gotAt, e, at)
			}
		}
	}
}
