package logtree

import (
	"maps"
	"slices"
	"testing"

	"replevin/api"
	"replevin/sha256"
)

// digest returns a digest that is not computed from anything.
func digest(b byte) sha256.Digest { return sha256.Digest{0: b, 31: b} }

func joined(left, right sha256.Digest) string {
	return "\x01\x02\x00\x00\x00\x20" + string(left[:]) + "\x00\x00\x00\x20" + string(right[:])
}

// P6.4: nobody knows two texts with the same digest, so the search for them is tested with nodes that are assumed to collide.
func TestHighest(t *testing.T) {
	a := []below{{digest(1), digest(2)}, {digest(3), digest(4)}, {digest(5), digest(6)}}
	for i, node := range a {
		for _, other := range []below{{digest(9), node.right}, {node.left, digest(9)}, {node.right, node.left}, {digest(8), digest(9)}} {
			b := slices.Clone(a)
			b[i] = other
			// What is further down does not matter.
			for low := range i {
				b[low] = below{digest(7), digest(7)}
			}
			x, y, ok := highest(a, b)
			if x != joined(node.left, node.right) || y != joined(other.left, other.right) || !ok {
				t.Errorf("highest at %d = %q, %q, %t", i, x, y, ok)
			}
			x, y, ok = highest(b, a)
			if y != joined(node.left, node.right) || x != joined(other.left, other.right) || !ok {
				t.Errorf("highest at %d of the second = %q, %q, %t", i, x, y, ok)
			}
		}
	}
	for length := range len(a) + 1 {
		if x, y, ok := highest(a[:length], slices.Clone(a[:length])); x != "" || y != "" || ok {
			t.Errorf("highest of equal nodes = %q, %q, %t", x, y, ok)
		}
	}
}

// P6.4: the nodes are those of the proof, from the leaf up; the texts are those from which their digests are computed.
func TestClimb(t *testing.T) {
	leaf, path := digest(1), []sha256.Digest{digest(2), digest(3), digest(4)}
	first := Node(leaf, path[0])
	second := Node(path[1], first)
	nodes, root, e := climb(2, 5, Proof{leaf, path})
	if e != api.OK || root != Node(second, path[2]) || !slices.Equal(nodes, []below{{leaf, path[0]}, {path[1], first}, {second, path[2]}}) {
		t.Errorf("climb = %v, %s, %d", nodes, root, e)
	}
	for _, node := range nodes {
		if sha256.Sum(node.text()) != node.node() {
			t.Errorf("the digest of the text of %v is not that of the node", node)
		}
	}
}

// P6.4
func TestCollisionOfNothing(t *testing.T) {
	a, b := digest(1), digest(2)
	path := []sha256.Digest{digest(3), digest(4)}
	for _, x := range []struct {
		why      string
		index, n int
		a, b     Proof
	}{
		{"equal proofs of one leaf", 0, 1, Proof{Leaf: a}, Proof{Leaf: a}},
		{"other roots of one leaf", 0, 1, Proof{Leaf: a}, Proof{Leaf: b}},
		{"equal proofs", 1, 4, Proof{a, path}, Proof{a, slices.Clone(path)}},
		{"nil and empty paths", 0, 1, Proof{a, nil}, Proof{a, []sha256.Digest{}}},
		{"other leaves", 1, 4, Proof{a, path}, Proof{b, path}},
		{"other paths", 1, 4, Proof{a, path}, Proof{a, []sha256.Digest{path[1], path[0]}}},
		{"sides exchanged", 0, 2, Proof{a, []sha256.Digest{b}}, Proof{b, []sha256.Digest{a}}},
		{"a short path", 1, 4, Proof{a, path}, Proof{a, path[:1]}},
		{"another short path", 1, 4, Proof{a, path[:1]}, Proof{a, path}},
		{"two short paths", 1, 4, Proof{a, path[:1]}, Proof{b, path[:1]}},
		{"two long paths", 0, 1, Proof{a, path}, Proof{b, path}},
		{"a wrong index", 4, 4, Proof{a, path}, Proof{b, path}},
		{"a negative index", -1, 4, Proof{a, path}, Proof{b, path}},
		{"no leaves", 0, 0, Proof{Leaf: a}, Proof{Leaf: b}},
		{"too many leaves", 0, MaxLeaves + 1, Proof{Leaf: a}, Proof{Leaf: b}},
		{"the root is the zero Digest of an error", 0, 1, Proof{}, Proof{a, path}},
		{"the same, exchanged", 0, 1, Proof{a, path}, Proof{}},
	} {
		if s, u, ok := Collision(x.index, x.n, x.a, x.b); s != "" || u != "" || ok {
			t.Errorf("Collision for %s = %q, %q, %t", x.why, s, u, ok)
		}
	}
}

// P6.8: the roots that a tree keeps are those of its leaves, even after others were removed.
func TestKeptRoots(t *testing.T) {
	for n := range 20 {
		k := New()
		for i := range n {
			k.Append(digest(byte(i)))
		}
		fresh := k.Clone()
		for more := range 20 {
			for i := range more {
				k.Append(digest(byte(100 + i)))
			}
			k.Truncate(n)
			if !maps.Equal(k.roots, fresh.roots) {
				t.Errorf("%d roots are kept for %d leaves after %d others; want %d", len(k.roots), n, more, len(fresh.roots))
			}
		}
	}
}
