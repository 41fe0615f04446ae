package sha256_test

import (
	standard "crypto/sha256"
	"math/rand/v2"
	"strings"
	"testing"

	"replevin/api"
	"replevin/sha256"
)

// written returns a Hash to which texts were written.
func written(t *testing.T, texts ...string) *sha256.Hash {
	t.Helper()
	h := sha256.New()
	for _, s := range texts {
		if e := h.Write(s); e != api.OK {
			t.Errorf("Write = %d", e)
		}
	}
	return h
}

// checkHash tests what a Hash says of a text that was written, and that asking for it changes nothing.
func checkHash(t *testing.T, h *sha256.Hash, text string) {
	t.Helper()
	for range 2 {
		if d := h.Sum(); d != standard.Sum256([]byte(text)) || h.Len() != len(text) {
			t.Errorf("Sum = %s, Len = %d for %d bytes", d, h.Len(), len(text))
		}
	}
}

// P2.5
func TestNew(t *testing.T) {
	checkHash(t, sha256.New(), "")
	checkHash(t, new(sha256.Hash), "")
	var zero sha256.Hash
	if !zero.Equal(sha256.New()) || !sha256.New().Equal(&zero) {
		t.Error("the zero value is not equal to what New returns")
	}
	zero.Write("abc")
	checkHash(t, &zero, "abc")
	a, b := sha256.New(), sha256.New()
	a.Write("a")
	b.Write("b")
	checkHash(t, a, "a")
	checkHash(t, b, "b")
}

// P2.5, P2.6
func TestWriteInPieces(t *testing.T) {
	random := rand.New(rand.NewPCG(4, 4))
	for range 500 {
		text := someText(random, random.IntN(400))
		h := sha256.New()
		for at := 0; at < len(text); {
			end := min(at+random.IntN(150), len(text))
			if e := h.Write(text[at:end]); e != api.OK {
				t.Fatalf("Write = %d", e)
			}
			at = end
			checkHash(t, h, text[:at])
		}
		if !h.Equal(written(t, text)) {
			t.Fatalf("the Hash of %d bytes depends on how the text is divided", len(text))
		}
	}
}

// P2.5, P2.6
func TestWriteInTwoPieces(t *testing.T) {
	text := someText(rand.New(rand.NewPCG(5, 5)), 200)
	whole := written(t, text)
	for at := range len(text) + 1 {
		h := written(t, text[:at], "", text[at:])
		checkHash(t, h, text)
		if !h.Equal(whole) || !whole.Equal(h) {
			t.Errorf("the Hash depends on a division at %d", at)
		}
	}
}

// P2.5
func TestReset(t *testing.T) {
	for _, length := range []int{0, 1, 63, 64, 65, 130} {
		h := written(t, strings.Repeat("r", length))
		if e := h.Reset(); e != api.OK {
			t.Errorf("Reset = %d", e)
		}
		checkHash(t, h, "")
		if !h.Equal(sha256.New()) || !sha256.New().Equal(h) {
			t.Errorf("a Hash of %d bytes that was reset is not equal to what New returns", length)
		}
		h.Write("abc")
		checkHash(t, h, "abc")
		if !h.Equal(written(t, "abc")) {
			t.Errorf("a Hash of %d bytes that was reset still has some of them", length)
		}
	}
}

// P2.5
func TestClone(t *testing.T) {
	for _, length := range []int{0, 1, 63, 64, 65, 130} {
		text := strings.Repeat("c", length)
		h := written(t, text)
		k := h.Clone()
		if k == h || !k.Equal(h) || !h.Equal(k) {
			t.Errorf("the clone of a Hash of %d bytes", length)
		}
		checkHash(t, k, text)
		h.Write("for the original, one that is longer than a block of sixty-four bytes")
		checkHash(t, k, text)
		if k.Equal(h) || h.Equal(k) {
			t.Error("a clone is equal to a Hash that was continued")
		}
		l := h.Clone()
		k.Write("for the clone")
		checkHash(t, h, text+"for the original, one that is longer than a block of sixty-four bytes")
		checkHash(t, k, text+"for the clone")
		h.Reset()
		checkHash(t, l, text+"for the original, one that is longer than a block of sixty-four bytes")
		k.Reset()
		checkHash(t, k, "")
	}
}

// P2.5
func TestEqual(t *testing.T) {
	block := strings.Repeat("b", 64)
	texts := []string{
		"", "\x00", "\x00\x00", "a", "b", "ab", "ba", "\x80", block[:63], block, block + "\x00", block + "a", block + "b",
		"a" + block[1:], "a" + block[1:] + "a", block[:63] + "a", block + block, "a" + block[1:] + block, block + block[:63],
		block + block[:63] + "a", strings.Repeat("\x00", 63), strings.Repeat("\x00", 64), strings.Repeat("\x00", 65), strings.Repeat("\x00", 128),
	}
	for i, a := range texts {
		for j, b := range texts {
			if got := written(t, a).Equal(written(t, b)); got != (i == j) {
				t.Errorf("Equal of Hashes of %q and %q = %t", a, b, got)
			}
		}
		h := written(t, a)
		if !h.Equal(h) {
			t.Errorf("a Hash of %q is not equal to itself", a)
		}
		// What is left in a Hash from blocks that are complete must not matter.
		if long := written(t, block[:7], block, a); !long.Equal(written(t, block[:7]+block+a)) {
			t.Errorf("Equal of Hashes of a block and %q", a)
		}
	}
}

// P2.5
func TestNilHash(t *testing.T) {
	var h *sha256.Hash
	if e := h.Write("abc"); e != api.ErrArgument {
		t.Errorf("Write = %d", e)
	}
	if e := h.Write(""); e != api.ErrArgument {
		t.Errorf("Write of nothing = %d", e)
	}
	if e := h.Reset(); e != api.ErrArgument {
		t.Errorf("Reset = %d", e)
	}
	if d := h.Sum(); d != (sha256.Digest{}) {
		t.Errorf("Sum = %s", d)
	}
	if n := h.Len(); n != 0 {
		t.Errorf("Len = %d", n)
	}
	if k := h.Clone(); k != nil {
		t.Errorf("Clone = %v", k)
	}
	if !h.Equal(nil) || h.Equal(sha256.New()) || sha256.New().Equal(h) || sha256.New().Equal(nil) {
		t.Error("Equal")
	}
}
