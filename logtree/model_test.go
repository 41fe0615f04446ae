package logtree_test

import (
	standard "crypto/sha256"
	"math/rand/v2"
	"strconv"
	"testing"

	"replevin/api"
	"replevin/logtree"
	"replevin/sha256"
)

// The model follows the terms of the document for whole lists of digests.

func modelNode(left, right sha256.Digest) sha256.Digest {
	return standard.Sum256([]byte("\x01\x02\x00\x00\x00\x20" + string(left[:]) + "\x00\x00\x00\x20" + string(right[:])))
}

// modelLeft returns the size of the left part.
func modelLeft(n int) int {
	k := 1
	for 2*k < n {
		k *= 2
	}
	return k
}

func modelRoot(l []sha256.Digest) sha256.Digest {
	switch len(l) {
	case 0:
		return standard.Sum256([]byte("\x02\x00"))
	case 1:
		return l[0]
	}
	k := modelLeft(len(l))
	return modelNode(modelRoot(l[:k]), modelRoot(l[k:]))
}

func modelPath(l []sha256.Digest, index int) []sha256.Digest {
	if len(l) == 1 {
		return nil
	}
	k := modelLeft(len(l))
	if index < k {
		return append(modelPath(l[:k], index), modelRoot(l[k:]))
	}
	return append(modelPath(l[k:], index-k), modelRoot(l[:k]))
}

func modelExtension(l []sha256.Digest, m int, whole bool) []sha256.Digest {
	k := modelLeft(len(l))
	switch {
	case m == 0 || m == len(l) && whole:
		return nil
	case m == len(l):
		return []sha256.Digest{modelRoot(l)}
	case m <= k:
		return append(modelExtension(l[:k], m, whole), modelRoot(l[k:]))
	}
	return append(modelExtension(l[k:], m-k, false), modelRoot(l[:k]))
}

// modelFrom and modelExtends take any digests as the roots that follow in a path.

func modelFrom(leaf sha256.Digest, index, n int, path []sha256.Digest) sha256.Digest {
	if n == 1 {
		return leaf
	}
	k, rest, last := modelLeft(n), path[:len(path)-1], path[len(path)-1]
	if index < k {
		return modelNode(modelFrom(leaf, index, k, rest), last)
	}
	return modelNode(last, modelFrom(leaf, index-k, n-k, rest))
}

func modelExtends(old sha256.Digest, m, n int, path []sha256.Digest, whole bool) (first, all sha256.Digest) {
	switch {
	case m == n && whole:
		return old, old
	case m == n:
		return path[0], path[0]
	}
	k, rest, last := modelLeft(n), path[:len(path)-1], path[len(path)-1]
	if m <= k {
		first, all = modelExtends(old, m, k, rest, whole)
		return first, modelNode(all, last)
	}
	first, all = modelExtends(old, m-k, n-k, rest, false)
	return modelNode(last, first), modelNode(last, all)
}

// modelPathLen and modelExtensionLen return the lengths of paths without a list.

func modelPathLen(index, n int) int {
	k := modelLeft(n)
	switch {
	case n == 1:
		return 0
	case index < k:
		return 1 + modelPathLen(index, k)
	}
	return 1 + modelPathLen(index-k, n-k)
}

func modelExtensionLen(m, n int, whole bool) int {
	k := modelLeft(n)
	switch {
	case m == 0 || m == n && whole:
		return 0
	case m == n:
		return 1
	case m <= k:
		return 1 + modelExtensionLen(m, k, whole)
	}
	return 1 + modelExtensionLen(m-k, n-k, false)
}

// leaves returns different digests.
func leaves(count int) []sha256.Digest {
	l := make([]sha256.Digest, count)
	for i := range l {
		l[i] = standard.Sum256([]byte("leaf " + strconv.Itoa(i)))
	}
	return l
}

func someDigests(random *rand.Rand, count int) []sha256.Digest {
	l := make([]sha256.Digest, count)
	for i := range l {
		for j := range l[i] {
			l[i][j] = byte(random.IntN(256))
		}
	}
	return l
}

// treeOf returns the tree of a list.
func treeOf(t *testing.T, l []sha256.Digest) *logtree.Tree {
	t.Helper()
	k := logtree.New()
	for _, leaf := range l {
		if e := k.Append(leaf); e != api.OK {
			t.Fatalf("Append = %d", e)
		}
	}
	return k
}
