package logtree

import (
	"iter"
	"maps"
	"slices"

	"replevin/api"
	"replevin/sha256"
)

// Tree is a list of leaves with its roots.
//
// The roots of all complete parts of 2, 4, 8 .. leaves are kept, so that any other root is found with few nodes.
type Tree struct {
	leaves []sha256.Digest
	roots  map[part]sha256.Digest
}

// New returns a tree without leaves.
func New() *Tree { return &Tree{} }

// Append appends a leaf.
func (t *Tree) Append(leaf sha256.Digest) api.Errno {
	switch {
	case t == nil:
		return api.ErrArgument
	case len(t.leaves) == MaxLeaves:
		return api.ErrLimit
	case t.roots == nil:
		t.roots = map[part]sha256.Digest{}
	}
	t.leaves = append(t.leaves, leaf)
	for p := range completed(len(t.leaves)) {
		left, right := p.divide()
		t.roots[p] = Node(t.root(left), t.root(right))
	}
	return api.OK
}

// Len returns the number of leaves, Leaf the leaf with an index, and Root the root of the first n leaves.
func (t *Tree) Len() int {
	if t == nil {
		return 0
	}
	return len(t.leaves)
}

func (t *Tree) Leaf(index int) (sha256.Digest, api.Errno) {
	switch {
	case t == nil:
		return sha256.Digest{}, api.ErrArgument
	case index < 0 || index >= len(t.leaves):
		return sha256.Digest{}, api.ErrRange
	}
	return t.leaves[index], api.OK
}

func (t *Tree) Root(n int) (sha256.Digest, api.Errno) {
	switch {
	case t == nil:
		return sha256.Digest{}, api.ErrArgument
	case n < 0 || n > len(t.leaves):
		return sha256.Digest{}, api.ErrRange
	case n == 0:
		return Empty(), api.OK
	}
	return t.root(part{0, n}), api.OK
}

// Include returns the path of a leaf among the first n leaves, and Extend the path from the first m leaves to the first n leaves.
func (t *Tree) Include(index, n int) ([]sha256.Digest, api.Errno) {
	switch {
	case t == nil:
		return nil, api.ErrArgument
	case n < 1 || n > len(t.leaves) || index < 0 || index >= n:
		return nil, api.ErrRange
	}
	return t.digests(pathSteps(index, n)), api.OK
}

func (t *Tree) Extend(m, n int) ([]sha256.Digest, api.Errno) {
	switch {
	case t == nil:
		return nil, api.ErrArgument
	case n < 0 || n > len(t.leaves) || m < 0 || m > n:
		return nil, api.ErrRange
	}
	return t.digests(extensionSteps(m, n)), api.OK
}

// Truncate removes all leaves but the first n.
func (t *Tree) Truncate(n int) api.Errno {
	switch {
	case t == nil:
		return api.ErrArgument
	case n < 0 || n > len(t.leaves):
		return api.ErrRange
	}
	for end := len(t.leaves); end > n; end-- {
		for p := range completed(end) {
			delete(t.roots, p)
		}
	}
	t.leaves = t.leaves[:n]
	return api.OK
}

// Clone returns an independent copy, and Equal reports whether two trees have the same leaves.
func (t *Tree) Clone() *Tree {
	if t == nil {
		return nil
	}
	return &Tree{slices.Clone(t.leaves), maps.Clone(t.roots)}
}

func (t *Tree) Equal(o *Tree) bool {
	if t == nil || o == nil {
		return t == o
	}
	return slices.Equal(t.leaves, o.leaves)
}

// root returns the root of a part, which is not empty. The parts of 2, 4, 8 .. leaves into which lists are divided are those that are kept.
func (t *Tree) root(p part) sha256.Digest {
	if p.count == 1 {
		return t.leaves[p.from]
	}
	if d, is := t.roots[p]; is {
		return d
	}
	left, right := p.divide()
	return Node(t.root(left), t.root(right))
}

// digests returns the path that consists of steps.
func (t *Tree) digests(steps iter.Seq[step]) []sha256.Digest {
	var path []sha256.Digest
	for s := range steps {
		path = append(path, t.root(s.part))
	}
	return path
}
