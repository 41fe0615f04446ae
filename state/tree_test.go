package state

import (
	"math/rand/v2"
	"testing"

	"replevin/api"
	"replevin/object"
)

// checkTree returns the height of a tree whose sums and order are right.
func checkTree(t *testing.T, n *node) int {
	t.Helper()
	if n == nil {
		return 0
	}
	left, right := checkTree(t, n.left), checkTree(t, n.right)
	a, b := n.left.total(), n.right.total()
	if left-right > 1 || right-left > 1 || n.sums != (sums{1 + max(left, right), 1 + a.items + b.items, len(n.value) + a.bytes + b.bytes}) {
		t.Fatalf("the tree %s: %d, %d, %v", n.name, left, right, n.sums)
	}
	if n.left != nil && object.Compare(n.left.name, n.name) >= 0 || n.right != nil && object.Compare(n.name, n.right.name) >= 0 {
		t.Fatalf("the tree %s is not in order", n.name)
	}
	return 1 + max(left, right)
}

// shared returns how many nodes of a tree are in a set.
func shared(n *node, set map[*node]bool) int {
	switch {
	case n == nil:
		return 0
	case set[n]:
		return n.sums.items
	}
	return shared(n.left, set) + shared(n.right, set)
}

func nodes(n *node, set map[*node]bool) map[*node]bool {
	if n != nil {
		set[n] = true
		nodes(n.left, set)
		nodes(n.right, set)
	}
	return set
}

// The search tree stays balanced whatever the order of changes is, and a state shares all but a few nodes with the one that it is made from.
func TestTree(t *testing.T) {
	random := rand.New(rand.NewPCG(7, 7))
	for _, next := range []func(i int) int{
		func(i int) int { return i }, func(i int) int { return 2000 - i }, func(i int) int { return random.IntN(500) },
		func(i int) int { return i * 577 % 2000 },
	} {
		s := New()
		change := func(c Change) {
			before := nodes(s.root, map[*node]bool{})
			after, e := s.change(c)
			if e != api.OK {
				t.Fatal(e)
			}
			checkTree(t, after.root)
			if others := after.Len() - shared(after.root, before); others > 40 {
				t.Fatalf("%d nodes are not shared", others)
			}
			s = after
		}
		for i := range 600 {
			change(Change{Name: object.OfPort(next(i)), Value: "v"})
			if random.IntN(3) == 0 {
				change(Change{Name: object.OfPort(next(random.IntN(i + 1))), Absent: true})
			}
		}
		for i := range 600 {
			change(Change{Name: object.OfPort(next(i)), Absent: true})
		}
		for s.Len() > 0 {
			change(Change{Name: s.root.name, Absent: true})
		}
	}
	for count := range 70 {
		l := make([]item, count)
		for i := range l {
			l[i] = item{object.OfPort(i), "v"}
		}
		if tree := build(l); tree.total().items != count {
			t.Errorf("a tree of %d items has %d", count, tree.total().items)
		} else {
			checkTree(t, tree)
		}
	}
}
