package logtree_test

import (
	"math/rand/v2"
	"slices"
	"testing"

	"replevin/api"
	"replevin/logtree"
	"replevin/sha256"
)

// checkTree tests what a tree says of its leaves, and the roots and paths of some numbers of them.
func checkTree(t *testing.T, k *logtree.Tree, l []sha256.Digest, random *rand.Rand) {
	t.Helper()
	if k.Len() != len(l) {
		t.Fatalf("Len = %d; want %d", k.Len(), len(l))
	}
	for index, leaf := range l {
		if d, e := k.Leaf(index); d != leaf || e != api.OK {
			t.Fatalf("Leaf(%d) = %s, %d", index, d, e)
		}
	}
	for range 8 {
		n := random.IntN(len(l) + 1)
		if random.IntN(3) == 0 {
			n = len(l)
		}
		if d, e := k.Root(n); d != modelRoot(l[:n]) || e != api.OK {
			t.Fatalf("Root(%d) of %d = %s, %d", n, len(l), d, e)
		}
		m := random.IntN(n + 1)
		if path, e := k.Extend(m, n); !slices.Equal(path, modelExtension(l[:n], m, true)) || e != api.OK {
			t.Fatalf("Extend(%d, %d) of %d has %d digests, %d", m, n, len(l), len(path), e)
		}
		if m == n {
			continue
		}
		if path, e := k.Include(m, n); !slices.Equal(path, modelPath(l[:n], m)) || e != api.OK {
			t.Fatalf("Include(%d, %d) of %d has %d digests, %d", m, n, len(l), len(path), e)
		}
	}
}

// P6.5, P6.6, P6.7: trees that were made in any way are like others with the same leaves.
func TestTrees(t *testing.T) {
	random := rand.New(rand.NewPCG(3, 3))
	for range 60 {
		k, l := logtree.New(), []sha256.Digest(nil)
		for range 40 {
			switch random.IntN(4) {
			case 0:
				n := random.IntN(len(l) + 1)
				if e := k.Truncate(n); e != api.OK {
					t.Fatalf("Truncate(%d) = %d", n, e)
				}
				l = l[:n:n]
			case 1:
				// The one that is left behind must not matter.
				old := k
				k = k.Clone()
				old.Truncate(len(l) / 2)
				for _, leaf := range someDigests(random, 5) {
					old.Append(leaf)
				}
			default:
				for _, leaf := range someDigests(random, random.IntN(20)) {
					if e := k.Append(leaf); e != api.OK {
						t.Fatalf("Append = %d", e)
					}
					l = append(l, leaf)
				}
			}
			checkTree(t, k, l, random)
			if other := treeOf(t, l); !k.Equal(other) || !other.Equal(k) {
				t.Fatal("a tree is not equal to another one with the same leaves")
			}
		}
	}
}

// P6.5, P6.6, P6.8: all roots and paths of small trees, and what they lead to.
func TestPathsOfTree(t *testing.T) {
	l := leaves(40)
	k := treeOf(t, l)
	for n := range len(l) + 1 {
		root, e := k.Root(n)
		if root != modelRoot(l[:n]) || e != api.OK {
			t.Errorf("Root(%d) = %s, %d", n, root, e)
		}
		for m := range n + 1 {
			path, e := k.Extend(m, n)
			if !slices.Equal(path, modelExtension(l[:n], m, true)) || e != api.OK {
				t.Errorf("Extend(%d, %d) has %d digests, %d", m, n, len(path), e)
			}
			old, _ := k.Root(m)
			if first, all, e := logtree.Extends(old, m, n, path); first != old || m > 0 && all != root || e != api.OK {
				t.Errorf("Extends from %d to %d = %s, %s, %d", m, n, first, all, e)
			}
		}
		for index := range n {
			path, e := k.Include(index, n)
			if !slices.Equal(path, modelPath(l[:n], index)) || e != api.OK {
				t.Errorf("Include(%d, %d) has %d digests, %d", index, n, len(path), e)
			}
			if d, e := logtree.From(l[index], index, n, path); d != root || e != api.OK {
				t.Errorf("From with the index %d of %d = %s, %d", index, n, d, e)
			}
		}
	}
}

// The examples of the document.
func TestExamplesOfTree(t *testing.T) {
	a, b, c, d := logtree.Leaf("a"), logtree.Leaf("b"), logtree.Leaf("c"), logtree.Leaf("d")
	k := treeOf(t, []sha256.Digest{a, b, c, d})
	if root, e := k.Root(3); root != logtree.Node(logtree.Node(a, b), c) || e != api.OK {
		t.Errorf("Root = %s, %d", root, e)
	}
	for _, x := range []struct {
		m, n int
		want []sha256.Digest
	}{{1, 3, []sha256.Digest{b, c}}, {2, 3, []sha256.Digest{c}}, {3, 3, nil}, {3, 4, []sha256.Digest{c, d, logtree.Node(a, b)}}, {0, 0, nil}, {0, 4, nil}} {
		if path, e := k.Extend(x.m, x.n); !slices.Equal(path, x.want) || e != api.OK {
			t.Errorf("Extend(%d, %d) has %d digests, %d", x.m, x.n, len(path), e)
		}
	}
}

// P6.5, P6.6
func TestErrorsOfTree(t *testing.T) {
	const large = int(^uint(0) >> 1)
	for _, length := range []int{0, 1, 2, 5} {
		l := leaves(length)
		k := treeOf(t, l)
		wrong := []int{-large - 1, -1, length, length + 1, length + 2, logtree.MaxLeaves, large}
		for _, n := range wrong {
			if d, e := k.Leaf(n); !d.IsZero() || e != api.ErrRange {
				t.Errorf("Leaf(%d) of %d = %s, %d; want ErrRange", n, length, d, e)
			}
			if path, e := k.Include(n, length); path != nil || e != api.ErrRange {
				t.Errorf("Include(%d, %d) of %d = %v, %d; want ErrRange", n, length, length, path, e)
			}
			if n == length {
				continue
			}
			if d, e := k.Root(n); !d.IsZero() || e != api.ErrRange {
				t.Errorf("Root(%d) of %d = %s, %d; want ErrRange", n, length, d, e)
			}
			if e := k.Truncate(n); e != api.ErrRange {
				t.Errorf("Truncate(%d) of %d = %d; want ErrRange", n, length, e)
			}
			for _, other := range []int{-1, 0, 1, length, n} {
				if path, e := k.Extend(other, n); path != nil || e != api.ErrRange {
					t.Errorf("Extend(%d, %d) of %d = %v, %d; want ErrRange", other, n, length, path, e)
				}
				if path, e := k.Include(other, n); path != nil || e != api.ErrRange {
					t.Errorf("Include(%d, %d) of %d = %v, %d; want ErrRange", other, n, length, path, e)
				}
			}
			if path, e := k.Extend(n, length); path != nil || e != api.ErrRange {
				t.Errorf("Extend(%d, %d) of %d = %v, %d; want ErrRange", n, length, length, path, e)
			}
		}
		for n := range length + 1 {
			if path, e := k.Extend(n+1, n); path != nil || e != api.ErrRange {
				t.Errorf("Extend(%d, %d) of %d = %v, %d; want ErrRange", n+1, n, length, path, e)
			}
			if path, e := k.Include(n, n); path != nil || e != api.ErrRange {
				t.Errorf("Include(%d, %d) of %d = %v, %d; want ErrRange", n, n, length, path, e)
			}
			if path, e := k.Include(0, 0); path != nil || e != api.ErrRange {
				t.Errorf("Include(0, 0) of %d = %v, %d; want ErrRange", length, path, e)
			}
		}
		checkTree(t, k, l, rand.New(rand.NewPCG(4, 4)))
	}
}

// P6.5, P6.6, P6.8
func TestLimitOfTree(t *testing.T) {
	const most = logtree.MaxLeaves
	leaf := logtree.Leaf("a")
	k := logtree.New()
	for range most {
		if e := k.Append(leaf); e != api.OK {
			t.Fatalf("Append = %d", e)
		}
	}
	root, _ := k.Root(most)
	if e := k.Append(logtree.Leaf("b")); e != api.ErrLimit {
		t.Errorf("Append = %d; want ErrLimit", e)
	}
	if d, e := k.Root(most); k.Len() != most || d != root || e != api.OK {
		t.Errorf("Root = %s, %d of %d leaves", d, e, k.Len())
	}
	random := rand.New(rand.NewPCG(5, 5))
	longest, longestExtension := 0, 0
	for range 2000 {
		n := most - random.IntN(3)*random.IntN(most)
		if n < 1 {
			continue
		}
		index := random.IntN(n)
		path, e := k.Include(index, n)
		if e != api.OK || len(path) != modelPathLen(index, n) {
			t.Fatalf("Include(%d, %d) has %d digests, %d", index, n, len(path), e)
		}
		extension, e := k.Extend(index, n)
		if e != api.OK || len(extension) != modelExtensionLen(index, n, true) {
			t.Fatalf("Extend(%d, %d) has %d digests, %d", index, n, len(extension), e)
		}
		longest, longestExtension = max(longest, len(path)), max(longestExtension, len(extension))
	}
	if longest != 20 || longestExtension != 21 {
		t.Errorf("paths have up to %d digests, and extension paths up to %d", longest, longestExtension)
	}
	if e := k.Truncate(most - 1); e != api.OK || k.Len() != most-1 {
		t.Errorf("Truncate = %d", e)
	}
	if e := k.Append(leaf); e != api.OK {
		t.Errorf("Append = %d", e)
	}
	if d, e := k.Root(most); d != root || e != api.OK {
		t.Errorf("Root = %s, %d", d, e)
	}
}

// P6.5, P6.8: Truncate undoes what was appended, whatever was appended.
func TestTruncate(t *testing.T) {
	random := rand.New(rand.NewPCG(6, 6))
	l := leaves(34)
	for n := range len(l) + 1 {
		for more := range 20 {
			k := treeOf(t, l[:n])
			for _, leaf := range someDigests(random, more) {
				k.Append(leaf)
			}
			if e := k.Truncate(n); e != api.OK {
				t.Fatalf("Truncate = %d", e)
			}
			if !k.Equal(treeOf(t, l[:n])) {
				t.Fatalf("the tree with %d leaves is not as it was after %d others", n, more)
			}
			for _, leaf := range l[n:] {
				k.Append(leaf)
			}
			checkTree(t, k, l, random)
		}
	}
}

// P6.7
func TestCloneOfTree(t *testing.T) {
	random := rand.New(rand.NewPCG(7, 7))
	l := leaves(21)
	for n := range len(l) {
		k := treeOf(t, l[:n])
		c := k.Clone()
		if c == k || !c.Equal(k) || !k.Equal(c) {
			t.Errorf("the clone of a tree with %d leaves", n)
		}
		other := append(slices.Clone(l[:n]), logtree.Leaf("other"))
		k.Append(l[n])
		c.Append(other[n])
		checkTree(t, k, l[:n+1], random)
		checkTree(t, c, other, random)
		if k.Equal(c) || c.Equal(k) {
			t.Errorf("trees that differ in the leaf %d are equal", n)
		}
		d := k.Clone()
		k.Truncate(n / 2)
		k.Append(other[n])
		checkTree(t, d, l[:n+1], random)
		d.Truncate(0)
		checkTree(t, k, append(slices.Clone(l[:n/2]), other[n]), random)
	}
}

// P6.7
func TestEqual(t *testing.T) {
	l := leaves(4)
	a, b, c, d := l[0], l[1], l[2], l[3]
	lists := [][]sha256.Digest{nil, {a}, {b}, {{}}, {a, b}, {b, a}, {a, a}, {a, b, c}, {a, c, b}, {logtree.Node(a, b), c}, {logtree.Node(a, b)}, {a, b, c, d}, {logtree.Node(a, b), logtree.Node(c, d)}}
	for i, x := range lists {
		for j, y := range lists {
			if got := treeOf(t, x).Equal(treeOf(t, y)); got != (i == j) {
				t.Errorf("Equal of the lists %d and %d = %t", i, j, got)
			}
		}
	}
	k := treeOf(t, l)
	if !k.Equal(k) {
		t.Error("a tree is not equal to itself")
	}
}

// P6.8
func TestPathsAreNew(t *testing.T) {
	random := rand.New(rand.NewPCG(8, 8))
	l := leaves(11)
	k := treeOf(t, l)
	for index := range l {
		path, _ := k.Include(index, len(l))
		clear(path)
		extension, _ := k.Extend(index, len(l))
		clear(extension)
	}
	checkTree(t, k, l, random)
	path, _ := k.Include(3, 11)
	given := slices.Clone(path)
	k.Truncate(2)
	k.Append(logtree.Leaf("other"))
	if !slices.Equal(path, given) {
		t.Error("a path has changed with the tree")
	}
}

func TestZeroTree(t *testing.T) {
	var k logtree.Tree
	random := rand.New(rand.NewPCG(9, 9))
	checkTree(t, &k, nil, random)
	if c := k.Clone(); !c.Equal(&k) || c.Append(logtree.Leaf("a")) != api.OK || c.Append(logtree.Leaf("b")) != api.OK {
		t.Error("the clone of the zero value")
	}
	l := leaves(9)
	for _, leaf := range l {
		k.Append(leaf)
	}
	checkTree(t, &k, l, random)
	a, b := logtree.New(), logtree.New()
	a.Append(l[0])
	checkTree(t, b, nil, random)
	checkTree(t, a, l[:1], random)
}

func TestNilTree(t *testing.T) {
	var k *logtree.Tree
	leaf := logtree.Leaf("a")
	for _, n := range []int{-1, 0, 1} {
		if d, e := k.Leaf(n); !d.IsZero() || e != api.ErrArgument {
			t.Errorf("Leaf = %s, %d", d, e)
		}
		if d, e := k.Root(n); !d.IsZero() || e != api.ErrArgument {
			t.Errorf("Root = %s, %d", d, e)
		}
		if path, e := k.Include(0, n); path != nil || e != api.ErrArgument {
			t.Errorf("Include = %v, %d", path, e)
		}
		if path, e := k.Extend(0, n); path != nil || e != api.ErrArgument {
			t.Errorf("Extend = %v, %d", path, e)
		}
		if e := k.Truncate(n); e != api.ErrArgument {
			t.Errorf("Truncate = %d", e)
		}
	}
	if e := k.Append(leaf); e != api.ErrArgument {
		t.Errorf("Append = %d", e)
	}
	if k.Len() != 0 || k.Clone() != nil {
		t.Error("zero values")
	}
	if !k.Equal(nil) || k.Equal(logtree.New()) || logtree.New().Equal(k) || logtree.New().Equal(nil) {
		t.Error("Equal")
	}
}
