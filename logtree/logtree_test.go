package logtree_test

import (
	standard "crypto/sha256"
	"math/rand/v2"
	"slices"
	"strings"
	"testing"

	"replevin/api"
	"replevin/logtree"
	"replevin/sha256"
)

// P6.1
func TestDigests(t *testing.T) {
	if logtree.MaxLeaves != 1048576 {
		t.Error(logtree.MaxLeaves)
	}
	for text, joined := range map[string]string{
		"":                       "\x00\x01\x00\x00\x00\x00",
		"a":                      "\x00\x01\x00\x00\x00\x01a",
		strings.Repeat("z", 300): "\x00\x01\x00\x00\x01\x2c" + strings.Repeat("z", 300),
	} {
		if d := logtree.Leaf(text); d != standard.Sum256([]byte(joined)) {
			t.Errorf("Leaf(%q) = %s", text, d)
		}
	}
	if d := logtree.Empty(); d != standard.Sum256([]byte("\x02\x00")) {
		t.Errorf("Empty = %s", d)
	}
	a, b := logtree.Leaf("a"), logtree.Leaf("b")
	for _, pair := range [][2]sha256.Digest{{a, b}, {b, a}, {a, a}, {{}, a}, {a, {}}} {
		if d := logtree.Node(pair[0], pair[1]); d != modelNode(pair[0], pair[1]) {
			t.Errorf("Node(%s, %s) = %s", pair[0], pair[1], d)
		}
	}
}

// P6.1
func TestRoot(t *testing.T) {
	l := leaves(140)
	given := slices.Clone(l)
	for n := range len(l) + 1 {
		if d, e := logtree.Root(l[:n]); d != modelRoot(l[:n]) || e != api.OK {
			t.Errorf("Root of %d digests = %s, %d", n, d, e)
		}
	}
	if !slices.Equal(l, given) {
		t.Error("Root has changed its argument")
	}
	if d, e := logtree.Root(nil); d != logtree.Empty() || e != api.OK {
		t.Errorf("Root(nil) = %s, %d", d, e)
	}
	zero := []sha256.Digest{{}}
	if d, e := logtree.Root(zero); !d.IsZero() || e != api.OK {
		t.Errorf("Root of the zero Digest = %s, %d", d, e)
	}
}

// P6.1
func TestLimitOfRoot(t *testing.T) {
	l := make([]sha256.Digest, logtree.MaxLeaves+2)
	// All leaves are equal, so that the model needs only one node for each height.
	want := l[0]
	for n := 1; n < logtree.MaxLeaves; n *= 2 {
		want = modelNode(want, want)
	}
	if d, e := logtree.Root(l[:logtree.MaxLeaves]); d != want || e != api.OK {
		t.Errorf("Root of as many digests as permitted = %s, %d", d, e)
	}
	for _, n := range []int{logtree.MaxLeaves + 1, logtree.MaxLeaves + 2} {
		if d, e := logtree.Root(l[:n]); !d.IsZero() || e != api.ErrLimit {
			t.Errorf("Root of %d digests = %s, %d; want ErrLimit", n, d, e)
		}
	}
}

// The first example of the document.
func TestExampleOfPaths(t *testing.T) {
	a, b, c := logtree.Leaf("a"), logtree.Leaf("b"), logtree.Leaf("c")
	root := logtree.Node(logtree.Node(a, b), c)
	for index, x := range []logtree.Proof{{Leaf: a, Path: []sha256.Digest{b, c}}, {Leaf: b, Path: []sha256.Digest{a, c}}, {Leaf: c, Path: []sha256.Digest{logtree.Node(a, b)}}} {
		if d, e := logtree.From(x.Leaf, index, 3, x.Path); d != root || e != api.OK {
			t.Errorf("From with the index %d = %s, %d", index, d, e)
		}
	}
}

// P6.2, P6.8
func TestFrom(t *testing.T) {
	random := rand.New(rand.NewPCG(1, 1))
	l := leaves(70)
	for n := 1; n <= len(l); n++ {
		root := modelRoot(l[:n])
		for index := range n {
			path := modelPath(l[:n], index)
			given := slices.Clone(path)
			if d, e := logtree.From(l[index], index, n, path); d != root || e != api.OK {
				t.Errorf("From with the index %d of %d = %s, %d", index, n, d, e)
			}
			if !slices.Equal(path, given) {
				t.Error("From has changed its argument")
			}
			// Digests that are not those of a list.
			other := someDigests(random, len(path)+1)
			if d, e := logtree.From(other[0], index, n, other[1:]); d != modelFrom(other[0], index, n, other[1:]) || e != api.OK {
				t.Errorf("From with any digests and the index %d of %d = %s, %d", index, n, d, e)
			}
		}
	}
}

// P6.2, P6.8: any part of a proof matters.
func TestFromOfOtherProofs(t *testing.T) {
	l := leaves(13)
	root := modelRoot(l)
	for index := range l {
		path := modelPath(l, index)
		for other := range l {
			d, e := logtree.From(l[other], index, len(l), path)
			if e != api.OK || (d == root) != (other == index) {
				t.Errorf("From with the leaf %d and the path of %d = %s, %d", other, index, d, e)
			}
			if d, e := logtree.From(l[index], other, len(l), path); other != index && e == api.OK && d == root {
				t.Errorf("From with the index %d and the path of %d leads to the root", other, index)
			}
		}
		for i := range path {
			changed := slices.Clone(path)
			changed[i][31] ^= 1
			if d, e := logtree.From(l[index], index, len(l), changed); e != api.OK || d == root {
				t.Errorf("From with a path that differs at %d leads to the root, %d", i, e)
			}
		}
	}
}

// P6.2
func TestErrorsOfFrom(t *testing.T) {
	a, l := logtree.Leaf("a"), leaves(40)
	const most, large = logtree.MaxLeaves, int(^uint(0) >> 1)
	for _, x := range []struct {
		index, n, length int
		e                api.Errno
	}{
		{0, 0, 0, api.ErrRange}, {0, -1, 0, api.ErrRange}, {-1, 0, 0, api.ErrRange}, {-1, -1, 0, api.ErrRange}, {0, -large - 1, 0, api.ErrRange},
		{1, 1, 0, api.ErrRange}, {-1, 1, 0, api.ErrRange}, {3, 3, 1, api.ErrRange}, {4, 3, 2, api.ErrRange}, {-1, 3, 2, api.ErrRange},
		{0, most + 1, 20, api.ErrRange}, {0, most + 1, 21, api.ErrRange}, {0, large, 20, api.ErrRange}, {large, large, 20, api.ErrRange},
		{most, most, 20, api.ErrRange}, {-large - 1, most, 20, api.ErrRange}, {0, most, 20, api.OK}, {most - 1, most, 20, api.OK}, {most / 2, most, 20, api.OK},
		{0, most, 19, api.ErrProof}, {0, most, 21, api.ErrProof}, {most - 2, most - 1, 19, api.OK}, {most - 2, most - 1, 20, api.ErrProof},
		{most - 2, most - 1, 18, api.ErrProof}, {most / 2, most/2 + 1, 1, api.OK}, {most / 2, most/2 + 1, 2, api.ErrProof}, {most / 2, most/2 + 1, 0, api.ErrProof},
		{most/2 - 1, most/2 + 1, 20, api.OK}, {0, 1, 0, api.OK}, {0, 1, 1, api.ErrProof}, {0, 2, 0, api.ErrProof}, {0, 2, 2, api.ErrProof}, {1, 1, 3, api.ErrRange}, {2, 3, 2, api.ErrProof}, {0, 0, 5, api.ErrRange},
	} {
		d, e := logtree.From(a, x.index, x.n, l[:x.length])
		if e != x.e || e != api.OK && !d.IsZero() {
			t.Errorf("From with the index %d of %d and %d digests = %s, %d; want %d", x.index, x.n, x.length, d, e, x.e)
		}
		if e == api.OK && d != modelFrom(a, x.index, x.n, l[:x.length]) {
			t.Errorf("From with the index %d of %d = %s", x.index, x.n, d)
		}
	}
	for n := 1; n <= 40; n++ {
		for index := range n {
			for length := range 10 {
				want := api.ErrProof
				if length == modelPathLen(index, n) {
					want = api.OK
				}
				if d, e := logtree.From(a, index, n, l[:length]); e != want || e != api.OK && !d.IsZero() {
					t.Errorf("From with the index %d of %d and %d digests = %s, %d; want %d", index, n, length, d, e, want)
				}
			}
		}
	}
}

// P6.3, P6.8
func TestExtends(t *testing.T) {
	random := rand.New(rand.NewPCG(2, 2))
	l := leaves(50)
	for n := range len(l) + 1 {
		for m := 1; m <= n; m++ {
			path, old, root := modelExtension(l[:n], m, true), modelRoot(l[:m]), modelRoot(l[:n])
			given := slices.Clone(path)
			if first, all, e := logtree.Extends(old, m, n, path); first != old || all != root || e != api.OK {
				t.Errorf("Extends from %d to %d = %s, %s, %d", m, n, first, all, e)
			}
			if !slices.Equal(path, given) {
				t.Error("Extends has changed its argument")
			}
			// Digests that are not those of a list.
			other := someDigests(random, len(path)+1)
			first, all, e := logtree.Extends(other[0], m, n, other[1:])
			wantFirst, wantAll := modelExtends(other[0], m, n, other[1:], true)
			if first != wantFirst || all != wantAll || e != api.OK {
				t.Errorf("Extends with any digests from %d to %d = %s, %s, %d", m, n, first, all, e)
			}
		}
	}
}

// P6.3: from no leaves, nothing has to be shown.
func TestExtendsFromNothing(t *testing.T) {
	for _, old := range []sha256.Digest{{}, logtree.Empty(), logtree.Leaf("a")} {
		for _, n := range []int{0, 1, 2, 3, 1000, logtree.MaxLeaves} {
			if first, all, e := logtree.Extends(old, 0, n, nil); first != old || !all.IsZero() || e != api.OK {
				t.Errorf("Extends from 0 to %d = %s, %s, %d", n, first, all, e)
			}
			if first, all, e := logtree.Extends(old, 0, n, leaves(1)); !first.IsZero() || !all.IsZero() || e != api.ErrProof {
				t.Errorf("Extends from 0 to %d with a digest = %s, %s, %d; want ErrProof", n, first, all, e)
			}
		}
	}
}

// P6.3: old is taken as a root only where the old leaves are a part that counts as the whole list.
func TestOldOfExtends(t *testing.T) {
	l := leaves(20)
	for n := range len(l) + 1 {
		for m := 1; m <= n; m++ {
			old := modelRoot(l[:m])
			first, all, e := logtree.Extends(sha256.Digest{}, m, n, modelExtension(l[:n], m, true))
			if e != api.OK {
				t.Errorf("Extends from %d to %d = %d", m, n, e)
			}
			if m&(m-1) == 0 || m == n {
				if !first.IsZero() || all == modelRoot(l[:n]) {
					t.Errorf("Extends from %d to %d = %s, %s without the old root", m, n, first, all)
				}
			} else if first != old || all != modelRoot(l[:n]) {
				t.Errorf("Extends from %d to %d = %s, %s", m, n, first, all)
			}
		}
	}
}

// P6.3
func TestErrorsOfExtends(t *testing.T) {
	a, l := logtree.Leaf("a"), leaves(40)
	const most, large = logtree.MaxLeaves, int(^uint(0) >> 1)
	for _, x := range []struct {
		m, n, length int
		e            api.Errno
	}{
		{0, -1, 0, api.ErrRange}, {-1, -1, 0, api.ErrRange}, {-1, 0, 0, api.ErrRange}, {1, 0, 0, api.ErrRange}, {-1, 5, 3, api.ErrRange}, {6, 5, 3, api.ErrRange},
		{1, most + 1, 20, api.ErrRange}, {0, most + 1, 0, api.ErrRange}, {most + 1, most + 1, 0, api.ErrRange}, {large, large, 0, api.ErrRange}, {-large - 1, 1, 0, api.ErrRange}, {1, -large - 1, 0, api.ErrRange},
		{most, most, 0, api.OK}, {most, most, 1, api.ErrProof}, {1, most, 20, api.OK}, {1, most, 21, api.ErrProof}, {1, most, 19, api.ErrProof},
		{most - 1, most, 21, api.OK}, {most - 1, most, 20, api.ErrProof}, {most - 1, most, 22, api.ErrProof}, {most / 2, most, 1, api.OK}, {most / 2, most, 2, api.ErrProof}, {3, most, 21, api.OK},
		{1, 1, 0, api.OK}, {1, 1, 1, api.ErrProof}, {0, 0, 0, api.OK}, {0, 0, 1, api.ErrProof}, {6, 5, 40, api.ErrRange},
	} {
		first, all, e := logtree.Extends(a, x.m, x.n, l[:x.length])
		if e != x.e || e != api.OK && (!first.IsZero() || !all.IsZero()) {
			t.Errorf("Extends from %d to %d with %d digests = %s, %s, %d; want %d", x.m, x.n, x.length, first, all, e, x.e)
		}
		if wantFirst, wantAll := a, (sha256.Digest{}); e == api.OK && x.m > 0 {
			wantFirst, wantAll = modelExtends(a, x.m, x.n, l[:x.length], true)
			if first != wantFirst || all != wantAll {
				t.Errorf("Extends from %d to %d = %s, %s", x.m, x.n, first, all)
			}
		}
	}
	for n := range 40 {
		for m := range n + 1 {
			for length := range 10 {
				want := api.ErrProof
				if length == modelExtensionLen(m, n, true) {
					want = api.OK
				}
				if first, all, e := logtree.Extends(a, m, n, l[:length]); e != want || e != api.OK && (!first.IsZero() || !all.IsZero()) {
					t.Errorf("Extends from %d to %d with %d digests = %s, %s, %d; want %d", m, n, length, first, all, e, want)
				}
			}
		}
	}
}
